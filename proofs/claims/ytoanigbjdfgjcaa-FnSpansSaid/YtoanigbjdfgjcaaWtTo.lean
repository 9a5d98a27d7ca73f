/-
  Contracts for the laws' helpers that copy what they are handed: toClock, toLease, toWatchAct, toClockS, toLeaseS, toWatchActS, toWatch.
-/
import Derived.Test.YtoanigbjdfgjcaaWtMem
namespace Go.Proofs.Ytoanigbjdfgjcaa.Wt
open Go.RowKit
set_option linter.unusedVariables false
set_option linter.unusedSimpArgs false

theorem toClock_any (a : Int) (w : World) :
    Calls Try.prog 64 #[.agg #[.int .i64 a]] w fun e w' => e = .returned (.agg #[.int .i64 a]) ∧ Below w.heap.size w w' := by
  go_enter Try.func64, Try.ntmps64
  go_wp2
  exact bodyPost_ret (v := .agg #[.int .i64 a]) (by simp [results, Try.results64, go_sem]) rfl ⟨rfl, below3 _ _ _ _⟩

theorem toLease_any (a b d : Int) (w : World) :
    Calls Try.prog 119 #[.agg #[.int .i64 a, .int .i64 b, .int .i64 d]] w fun e w' => e = .returned (.agg #[.int .i64 a, .int .i64 b, .int .i64 d]) ∧ Below w.heap.size w w' := by
  go_enter Try.func119, Try.ntmps119
  go_wp2
  exact bodyPost_ret (v := .agg #[.int .i64 a, .int .i64 b, .int .i64 d]) (by simp [results, Try.results119, go_sem]) rfl ⟨rfl, below3 _ _ _ _⟩

theorem toWatchAct_any (a b d : Int) (w : World) :
    Calls Try.prog 102 #[.agg #[.int .i64 a, .int .i64 b, .int .i64 d]] w fun e w' => e = .returned (.agg #[.int .i64 a, .int .i64 b, .int .i64 d]) ∧ Below w.heap.size w w' := by
  go_enter Try.func102, Try.ntmps102
  go_wp2
  exact bodyPost_ret (v := .agg #[.int .i64 a, .int .i64 b, .int .i64 d]) (by simp [results, Try.results102, go_sem]) rfl ⟨rfl, below3 _ _ _ _⟩

def ToCk (is : List Int) (n : Nat) (w : World) (e : Ending) (w' : World) : Prop :=
  ∃ g, e = .returned (.slice (some ⟨g, 0, none⟩) n n) ∧ OwnCk w' w.heap.size w'.heap.size (some ⟨g, 0, none⟩) n is ∧ Below w.heap.size w w'
def ToLe (ls : List (Int × Int × Int)) (n : Nat) (w : World) (e : Ending) (w' : World) : Prop :=
  ∃ g, e = .returned (.slice (some ⟨g, 0, none⟩) n n) ∧ OwnLe w' w.heap.size w'.heap.size (some ⟨g, 0, none⟩) n ls ∧ Below w.heap.size w w'
def ToAc (ls : List (Int × Int × Int)) (n : Nat) (w : World) (e : Ending) (w' : World) : Prop :=
  ∃ g, e = .returned (.slice (some ⟨g, 0, none⟩) n n) ∧ OwnAc w' w.heap.size w'.heap.size (some ⟨g, 0, none⟩) n ls ∧ Below w.heap.size w w'

set_option maxRecDepth 100000 in
set_option maxHeartbeats 1000000 in
theorem toClockS_any (A : Option Addr) (n c : Nat) (is : List Int) (B : Nat) (w : World) (hn : is.length = n) (h : CksB w B A is) (hB : B ≤ w.heap.size) (hl : n ≤ 1048576) :
    Calls Try.prog 26 #[.slice A n c] w (ToCk is n w) := by
  obtain ⟨i0, hi, hz0, hz1, hz2⟩ := info_parts infoCk
  have HN := Lib.hid hn
  have hge := Nat.le_of_eq hn
  have hle := Nat.le_of_eq hn.symm
  have HS := Lib.hid h
  clear hn h
  go_enter Try.func26, Try.ntmps26
  go_wp2_with (at_make; refine wpList_make_full _ rfl (.tmp 6) (.tmp 6) 28 rfl w.heap.size 68 i0 _ 1 Try.underlying28 hi hz0 hz1 .i64 .i64 _ _ n rfl rfl rfl rfl (by rw [hz2]; omega) (by unfold maxLen; omega) (Nat.le_refl _) ?_; intro w1 hown hgr)
  have hb1 : Below w.heap.size w w1 := (Below.refl _ _).grown hgr (Nat.le_refl _) (by simp)
  have hf0 := fill_made (by omega) hown
  clear hown hgr
  go_loopw [4] (fun i wr => ∃ k : Nat, k ≤ n ∧ i = .int .i64 k ∧ Fill wr w.heap.size n 1 68 ((is.take k).map ckCs) k ∧ Below w.heap.size w wr) (fun i _ => n - (intOf i).toNat)
  case atStart => exact ⟨0, by omega, rfl, by simpa using hf0, hb1⟩
  case round =>
    clear hf0 hb1
    obtain ⟨k, hk, rfl, hf, hb⟩ := hrel
    by_cases hlt : k < n
    · obtain ⟨b, off, rfl, hbB, hc⟩ := HS.out.get (by omega)
      have hc0 := hc k (by omega)
      have c0 := (hb.cell (p := ⟨b, off + k, none⟩) (Nat.lt_of_lt_of_le hbB hB)).trans hc0
      have HST := Lib.hid fun W (hW : Below wr.heap.size wr W) => Fill.snocCk (hf.below hW) (by omega) hlt
      obtain ⟨y, hy⟩ : ∃ y, y = is[k]'(by omega) := ⟨_, rfl⟩
      rw [← hy] at c0 HST
      have HF := Lib.hid hf
      have HB := Lib.hid hb
      clear hc hc0 hy hf hb
      go_wp2_with fail
      refine (toClock_any _ _).mono ?_
      rintro e w4 ⟨rfl, hb4⟩
      have hf := HF.out.below hb4
      obtain ⟨v0, hv0⟩ := hf.cell (k) (by omega)
      have hfr0 := hf.free (k)
      have HST4 := Lib.hid (HST.out w4 hb4)
      have HB4 := Lib.hid (HB.out.trans (hb4.mono HB.out.size))
      clear hf hb4 c0
      go_wp2
      go_roundw
      case rel => exact ⟨k + 1, by omega, by go_num, HST4.out, (HB4.out.setCell (p := ⟨w.heap.size, k, none⟩) (Nat.le_refl _) _)⟩
      case measure => simp [intOf]; omega
    · have hkn : k = n := by omega
      subst hkn
      rw [List.take_of_length_le (by omega)] at hf
      go_wp2
      go_ret
      exact ⟨w.heap.size, rfl, Fill.own (by rw [show (is.map ckCs).length = k by simp; exact HN.out]; exact hf) (by simp; exact HN.out) (by unfold maxLen; omega) (Nat.le_refl _) hf.lt, hb⟩

set_option maxRecDepth 100000 in
set_option maxHeartbeats 1000000 in
theorem toLeaseS_any (A : Option Addr) (n c : Nat) (ls : List (Int × Int × Int)) (B : Nat) (w : World) (hn : ls.length = n) (h : LesB w B A ls) (hB : B ≤ w.heap.size) (hl : n ≤ 1048576) :
    Calls Try.prog 78 #[.slice A n c] w (ToLe ls n w) := by
  obtain ⟨i0, hi, hz0, hz1, hz2⟩ := info_parts infoLe
  have HN := Lib.hid hn
  have hge := Nat.le_of_eq hn
  have hle := Nat.le_of_eq hn.symm
  have HS := Lib.hid h
  clear hn h
  go_enter Try.func78, Try.ntmps78
  go_wp2_with (at_make; refine wpList_make_full _ rfl (.tmp 6) (.tmp 6) 29 rfl w.heap.size 109 i0 _ 3 Try.underlying29 hi hz0 hz1 .i64 .i64 _ _ n rfl rfl rfl rfl (by rw [hz2]; omega) (by unfold maxLen; omega) (Nat.le_refl _) ?_; intro w1 hown hgr)
  have hb1 : Below w.heap.size w w1 := (Below.refl _ _).grown hgr (Nat.le_refl _) (by simp)
  have hf0 := fill_made (by omega) hown
  clear hown hgr
  go_loopw [4] (fun i wr => ∃ k : Nat, k ≤ n ∧ i = .int .i64 k ∧ Fill wr w.heap.size n 3 109 ((ls.take k).map leCs) k ∧ Below w.heap.size w wr) (fun i _ => n - (intOf i).toNat)
  case atStart => exact ⟨0, by omega, rfl, by simpa using hf0, hb1⟩
  case round =>
    clear hf0 hb1
    obtain ⟨k, hk, rfl, hf, hb⟩ := hrel
    by_cases hlt : k < n
    · obtain ⟨b, off, rfl, hbB, hc⟩ := HS.out.get (by omega)
      obtain ⟨hc0, hc1, hc2⟩ := hc k (by omega)
      have c0 := (hb.cell (p := ⟨b, off + k * 3, none⟩) (Nat.lt_of_lt_of_le hbB hB)).trans hc0
      have c1 := (hb.cell (p := ⟨b, off + k * 3 + 1, none⟩) (Nat.lt_of_lt_of_le hbB hB)).trans hc1
      have c2 := (hb.cell (p := ⟨b, off + k * 3 + 2, none⟩) (Nat.lt_of_lt_of_le hbB hB)).trans hc2
      have HST := Lib.hid fun W (hW : Below wr.heap.size wr W) => Fill.snocLe (hf.below hW) (by omega) hlt
      obtain ⟨y, hy⟩ : ∃ y, y = ls[k]'(by omega) := ⟨_, rfl⟩
      rw [← hy] at c0 c1 c2 HST
      obtain ⟨s0, s1, s2⟩ := y
      simp only at c0 c1 c2 HST
      have HF := Lib.hid hf
      have HB := Lib.hid hb
      clear hc hc0 hc1 hc2 hy hf hb
      go_wp2_with fail
      refine (toLease_any _ _ _ _).mono ?_
      rintro e w4 ⟨rfl, hb4⟩
      have hf := HF.out.below hb4
      obtain ⟨v0, hv0⟩ := hf.cell (k * 3) (by omega)
      have hfr0 := hf.free (k * 3)
      obtain ⟨v1, hv1⟩ := hf.cell (k * 3 + 1) (by omega)
      have hfr1 := hf.free (k * 3 + 1)
      obtain ⟨v2, hv2⟩ := hf.cell (k * 3 + 2) (by omega)
      have hfr2 := hf.free (k * 3 + 2)
      have HST4 := Lib.hid (HST.out w4 hb4)
      have HB4 := Lib.hid (HB.out.trans (hb4.mono HB.out.size))
      clear hf hb4 c0 c1 c2
      go_wp2
      go_roundw
      case rel => exact ⟨k + 1, by omega, by go_num, HST4.out, (((HB4.out.setCell (p := ⟨w.heap.size, k * 3, none⟩) (Nat.le_refl _) _).setCell (p := ⟨w.heap.size, k * 3 + 1, none⟩) (Nat.le_refl _) _).setCell (p := ⟨w.heap.size, k * 3 + 2, none⟩) (Nat.le_refl _) _)⟩
      case measure => simp [intOf]; omega
    · have hkn : k = n := by omega
      subst hkn
      rw [List.take_of_length_le (by omega)] at hf
      go_wp2
      go_ret
      exact ⟨w.heap.size, rfl, Fill.own (by rw [show (ls.map leCs).length = k by simp; exact HN.out]; exact hf) (by simp; exact HN.out) (by unfold maxLen; omega) (Nat.le_refl _) hf.lt, hb⟩

set_option maxRecDepth 100000 in
set_option maxHeartbeats 1000000 in
theorem toWatchActS_any (A : Option Addr) (n c : Nat) (ls : List (Int × Int × Int)) (B : Nat) (w : World) (hn : ls.length = n) (h : LesB w B A ls) (hB : B ≤ w.heap.size) (hl : n ≤ 1048576) :
    Calls Try.prog 51 #[.slice A n c] w (ToAc ls n w) := by
  obtain ⟨i0, hi, hz0, hz1, hz2⟩ := info_parts infoAct
  have HN := Lib.hid hn
  have hge := Nat.le_of_eq hn
  have hle := Nat.le_of_eq hn.symm
  have HS := Lib.hid h
  clear hn h
  go_enter Try.func51, Try.ntmps51
  go_wp2_with (at_make; refine wpList_make_full _ rfl (.tmp 6) (.tmp 6) 59 rfl w.heap.size 70 i0 _ 3 Try.underlying59 hi hz0 hz1 .i64 .i64 _ _ n rfl rfl rfl rfl (by rw [hz2]; omega) (by unfold maxLen; omega) (Nat.le_refl _) ?_; intro w1 hown hgr)
  have hb1 : Below w.heap.size w w1 := (Below.refl _ _).grown hgr (Nat.le_refl _) (by simp)
  have hf0 := fill_made (by omega) hown
  clear hown hgr
  go_loopw [4] (fun i wr => ∃ k : Nat, k ≤ n ∧ i = .int .i64 k ∧ Fill wr w.heap.size n 3 70 ((ls.take k).map leCs) k ∧ Below w.heap.size w wr) (fun i _ => n - (intOf i).toNat)
  case atStart => exact ⟨0, by omega, rfl, by simpa using hf0, hb1⟩
  case round =>
    clear hf0 hb1
    obtain ⟨k, hk, rfl, hf, hb⟩ := hrel
    by_cases hlt : k < n
    · obtain ⟨b, off, rfl, hbB, hc⟩ := HS.out.get (by omega)
      obtain ⟨hc0, hc1, hc2⟩ := hc k (by omega)
      have c0 := (hb.cell (p := ⟨b, off + k * 3, none⟩) (Nat.lt_of_lt_of_le hbB hB)).trans hc0
      have c1 := (hb.cell (p := ⟨b, off + k * 3 + 1, none⟩) (Nat.lt_of_lt_of_le hbB hB)).trans hc1
      have c2 := (hb.cell (p := ⟨b, off + k * 3 + 2, none⟩) (Nat.lt_of_lt_of_le hbB hB)).trans hc2
      have HST := Lib.hid fun W (hW : Below wr.heap.size wr W) => Fill.snocLe (hf.below hW) (by omega) hlt
      obtain ⟨y, hy⟩ : ∃ y, y = ls[k]'(by omega) := ⟨_, rfl⟩
      rw [← hy] at c0 c1 c2 HST
      obtain ⟨s0, s1, s2⟩ := y
      simp only at c0 c1 c2 HST
      have HF := Lib.hid hf
      have HB := Lib.hid hb
      clear hc hc0 hc1 hc2 hy hf hb
      go_wp2_with fail
      refine (toWatchAct_any _ _ _ _).mono ?_
      rintro e w4 ⟨rfl, hb4⟩
      have hf := HF.out.below hb4
      obtain ⟨v0, hv0⟩ := hf.cell (k * 3) (by omega)
      have hfr0 := hf.free (k * 3)
      obtain ⟨v1, hv1⟩ := hf.cell (k * 3 + 1) (by omega)
      have hfr1 := hf.free (k * 3 + 1)
      obtain ⟨v2, hv2⟩ := hf.cell (k * 3 + 2) (by omega)
      have hfr2 := hf.free (k * 3 + 2)
      have HST4 := Lib.hid (HST.out w4 hb4)
      have HB4 := Lib.hid (HB.out.trans (hb4.mono HB.out.size))
      clear hf hb4 c0 c1 c2
      go_wp2
      go_roundw
      case rel => exact ⟨k + 1, by omega, by go_num, HST4.out, (((HB4.out.setCell (p := ⟨w.heap.size, k * 3, none⟩) (Nat.le_refl _) _).setCell (p := ⟨w.heap.size, k * 3 + 1, none⟩) (Nat.le_refl _) _).setCell (p := ⟨w.heap.size, k * 3 + 2, none⟩) (Nat.le_refl _) _)⟩
      case measure => simp [intOf]; omega
    · have hkn : k = n := by omega
      subst hkn
      rw [List.take_of_length_le (by omega)] at hf
      go_wp2
      go_ret
      exact ⟨w.heap.size, rfl, Fill.own (by rw [show (ls.map leCs).length = k by simp; exact HN.out]; exact hf) (by simp; exact HN.out) (by unfold maxLen; omega) (Nat.le_refl _) hf.lt, hb⟩

/-- A watch that a call hands back: its slices in blocks of its own. -/
def WtV (tm : Int) (is : List Int) (ls : List (Int × Int × Int)) (w : World) (e : Ending) (w' : World) : Prop :=
  ∃ A c A' c', e = .returned (.agg #[.int .i64 tm, .slice A is.length c, .slice A' ls.length c']) ∧ OwnCk w' w.heap.size w'.heap.size A c is ∧ OwnLe w' w.heap.size w'.heap.size A' c' ls ∧ Below w.heap.size w w'

set_option maxRecDepth 100000 in
set_option maxHeartbeats 2000000 in
theorem toWatch_any (tm : Int) (A A' : Option Addr) (n c n' c' : Nat) (is : List Int) (ls : List (Int × Int × Int)) (B : Nat) (w : World) (hn : is.length = n) (hn' : ls.length = n') (h : CksB w B A is) (h' : LesB w B A' ls) (hB : B ≤ w.heap.size) (hl : n ≤ 1048576) (hl' : n' ≤ 1048576) :
    Calls Try.prog 21 #[.agg #[.int .i64 tm, .slice A n c, .slice A' n' c']] w (WtV tm is ls w) := by
  have HI := Lib.hid (fun W (hW : Below w.heap.size w W) => toClockS_any A n c is B W hn (h.below (hW.mono hB)) (Nat.le_trans hB hW.size) hl)
  have HL := Lib.hid (fun W (hW : Below w.heap.size w W) => toLeaseS_any A' n' c' ls B W hn' (h'.below (hW.mono hB)) (Nat.le_trans hB hW.size) hl')
  have HN := Lib.hid hn
  have HN' := Lib.hid hn'
  unfold WtV
  rw [hn, hn']
  clear h h' hl hl' hn hn' hB
  go_enter Try.func21, Try.ntmps21
  go_wp2_with fail
  have hb0 := below3 w (.cells #[.int .i64 tm, .slice A n c, .slice A' n' c'] 25) (.cells #[.int .i64 0, .slice none 0 0, .slice none 0 0] 31) (.cells #[.int .i64 tm, .slice none 0 0, .slice none 0 0] 31)
  refine (HI.out _ hb0).mono ?_
  rintro e w1 ⟨g1, rfl, ho1, hb1⟩
  have HB1 := Lib.hid (hb0.trans (hb1.mono hb0.size))
  obtain ⟨hc, hf⟩ := bcell hb1
  have hz := hb1.size
  simp only [World.size_alloc] at hz hc hf
  have hz0 : w.heap.size < w1.heap.size := by omega
  have hz1 : w.heap.size + 1 < w1.heap.size := by omega
  have hz2 : w.heap.size + 1 + 1 < w1.heap.size := by omega
  have HO1 := Lib.hid ho1
  clear hb0 hb1 ho1
  go_wp2_with fail
  have hb2 := HB1.out.setCell (p := ⟨w.heap.size + 1 + 1, 1, none⟩) (show w.heap.size ≤ w.heap.size + 1 + 1 by omega) (.slice (some ⟨g1, 0, none⟩) n n)
  refine (HL.out _ hb2).mono ?_
  rintro e w2 ⟨g2, rfl, ho2, hb3⟩
  have HB2 := Lib.hid (hb2.trans (hb3.mono hb2.size))
  have ho1 := ((HO1.out.low (p := ⟨w.heap.size + 1 + 1, 1, none⟩) (by simp) (.slice (some ⟨g1, 0, none⟩) n n)).below (hb3.mono (by simp [World.setCell])))
  obtain ⟨hc2, hf2⟩ := bcell hb3
  have hy := hb3.size
  simp only [World.size_setCell] at hy hc2 hf2
  have hy0 : w.heap.size < w2.heap.size := by omega
  have hy1 : w.heap.size + 1 < w2.heap.size := by omega
  have hy2 : w.heap.size + 1 + 1 < w2.heap.size := by omega
  have HO2 := Lib.hid ho1
  have HO3 := Lib.hid ho2
  clear HO1 ho1 ho2 hb2 hb3
  go_wp2
  exact bodyPost_ret (v := .agg #[.int .i64 tm, .slice (some ⟨g1, 0, none⟩) n n, .slice (some ⟨g2, 0, none⟩) n' n']) (by simp [results, Try.results21, go_sem, hc2, hf2, hc, hf, hy1, hz1]) rfl ⟨_, _, _, _, rfl,
    (OwnCk.put3 (HO2.out.low (p := ⟨w.heap.size + 1 + 1, 2, none⟩) (by simp) _) (by simp)).wider (by simp; omega) (by simp [World.setCell]; omega),
    (OwnLe.put3 (HO3.out.low (p := ⟨w.heap.size + 1 + 1, 2, none⟩) (by simp [World.setCell]; omega) _) (by simp [World.setCell]; omega)).wider (by simp [World.setCell]; omega) (by simp [World.setCell]),
    bel_put3 (HB2.out.setCell (p := ⟨w.heap.size + 1 + 1, 2, none⟩) (show w.heap.size ≤ w.heap.size + 1 + 1 by omega) _) (by omega)⟩
end Go.Proofs.Ytoanigbjdfgjcaa.Wt
