/-
  Contracts for the laws' helpers that copy what a law is handed: toVerS, toWriteS, toCellS.
-/
import Derived.Test.YtgdofgcggblajaaMem
namespace Go.Proofs.Ytgdofgcggblajaa
open Go.RowKit
set_option linter.unusedVariables false

theorem infoVer : (Try.prog.info? 120).map (fun i => (i.zero, i.size, i.bytes)) = some (some (.agg #[.int .i64 0, .string ⟨#[]⟩, .bool false]), 3, 32) := by kernel_rfl
theorem infoWrite : (Try.prog.info? 64).map (fun i => (i.zero, i.size, i.bytes)) = some (some (.agg #[.string ⟨#[]⟩, .string ⟨#[]⟩, .bool false]), 3, 40) := by kernel_rfl
theorem infoCell : (Try.prog.info? 115).map (fun i => (i.zero, i.size, i.bytes)) = some (some (.agg #[.string ⟨#[]⟩, .slice none 0 0]), 2, 40) := by kernel_rfl

theorem toVer_any (t : Int) (s : ByteArray) (g : Bool) (w : World) :
    Calls Try.prog 174 #[.agg #[.int .i64 t, .string s, .bool g]] w fun e w' => e = .returned (.agg #[.int .i64 t, .string s, .bool g]) ∧ Below w.heap.size w w' := by
  go_enter Try.func174, Try.ntmps174
  go_wp2
  exact bodyPost_ret (v := .agg #[.int .i64 t, .string s, .bool g]) (by simp [results, Try.results174, go_sem]) rfl ⟨rfl, below3 _ _ _ _⟩
theorem toWrite_any (a b : ByteArray) (g : Bool) (w : World) :
    Calls Try.prog 82 #[.agg #[.string a, .string b, .bool g]] w fun e w' => e = .returned (.agg #[.string a, .string b, .bool g]) ∧ Below w.heap.size w w' := by
  go_enter Try.func82, Try.ntmps82
  go_wp2
  exact bodyPost_ret (v := .agg #[.string a, .string b, .bool g]) (by simp [results, Try.results82, go_sem]) rfl ⟨rfl, below3 _ _ _ _⟩

section
variable {w : World} {g n k : Nat} {t : TypeId}
theorem Fill.snocV {vs : List (Int × ByteArray × Bool)} (h : Fill w g n 3 t ((vs.take k).map verCs) k) (hk : k < vs.length) (hn : k < n) :
    Fill (((w.setCell ⟨g, k * 3, none⟩ (.int .i64 vs[k].1)).setCell ⟨g, k * 3 + 1, none⟩ (.string vs[k].2.1)).setCell ⟨g, k * 3 + 2, none⟩ (.bool vs[k].2.2)) g n 3 t ((vs.take (k + 1)).map verCs) (k + 1) := by
  have hl : ((vs.take k).map verCs).length = k := by simp; omega
  have e : (vs.take (k + 1)).map verCs = (vs.take k).map verCs ++ [[.int .i64 vs[k].1, .string vs[k].2.1, .bool vs[k].2.2]] := by
    rw [List.take_succ_eq_append_getElem hk, List.map_append]
    rfl
  have h1 := Fill.snoc3 (u := .int .i64 vs[k].1) (v := .string vs[k].2.1) (x := .bool vs[k].2.2) (L := (vs.take k).map verCs) (by rw [hl]; exact h) (by omega)
  rw [hl] at h1
  rw [e]
  have hl2 : ((vs.take k).map verCs ++ [[Value.int .i64 vs[k].1, .string vs[k].2.1, .bool vs[k].2.2]]).length = k + 1 := by rw [List.length_append, hl]; rfl
  rw [hl2] at h1
  exact h1
theorem Fill.snocW {vs : List (ByteArray × ByteArray × Bool)} (h : Fill w g n 3 t ((vs.take k).map wrCs) k) (hk : k < vs.length) (hn : k < n) :
    Fill (((w.setCell ⟨g, k * 3, none⟩ (.string vs[k].1)).setCell ⟨g, k * 3 + 1, none⟩ (.string vs[k].2.1)).setCell ⟨g, k * 3 + 2, none⟩ (.bool vs[k].2.2)) g n 3 t ((vs.take (k + 1)).map wrCs) (k + 1) := by
  have hl : ((vs.take k).map wrCs).length = k := by simp; omega
  have e : (vs.take (k + 1)).map wrCs = (vs.take k).map wrCs ++ [[.string vs[k].1, .string vs[k].2.1, .bool vs[k].2.2]] := by
    rw [List.take_succ_eq_append_getElem hk, List.map_append]
    rfl
  have h1 := Fill.snoc3 (u := .string vs[k].1) (v := .string vs[k].2.1) (x := .bool vs[k].2.2) (L := (vs.take k).map wrCs) (by rw [hl]; exact h) (by omega)
  rw [hl] at h1
  rw [e]
  have hl2 : ((vs.take k).map wrCs ++ [[Value.string vs[k].1, .string vs[k].2.1, .bool vs[k].2.2]]).length = k + 1 := by rw [List.length_append, hl]; rfl
  rw [hl2] at h1
  exact h1
theorem Fill.snocC {gs : List (ByteArray × Option Addr × Nat × List (Int × ByteArray × Bool))} (h : Fill w g n 2 t (gs.map cellCs) k) (hk : gs.length = k) (hn : k < n) (key : ByteArray) (A : Option Addr) (c : Nat) (vs : List (Int × ByteArray × Bool)) :
    Fill ((w.setCell ⟨g, k * 2, none⟩ (.string key)).setCell ⟨g, k * 2 + 1, none⟩ (.slice A vs.length c)) g n 2 t ((gs ++ [(key, A, c, vs)]).map cellCs) (k + 1) := by
  have hl : (gs.map cellCs).length = k := by simpa using hk
  have h1 := Fill.snoc2 (u := .string key) (v := .slice A vs.length c) (L := gs.map cellCs) (by rw [hl]; exact h) (by omega)
  rw [hl] at h1
  have hl2 : (gs.map cellCs ++ [[Value.string key, .slice A vs.length c]]).length = k + 1 := by rw [List.length_append, hl]; rfl
  rw [hl2] at h1
  rw [List.map_append]
  exact h1
end

/-- What toVerS hands back: a new slice in a block of its own that reads as the same list. -/
def ToVPost (vs : List (Int × ByteArray × Bool)) (n : Nat) (w : World) (e : Ending) (w' : World) : Prop :=
  ∃ g, e = .returned (.slice (some ⟨g, 0, none⟩) n n) ∧ g = w.heap.size ∧ Own w' w.heap.size w'.heap.size 120 3 (some ⟨g, 0, none⟩) n (vs.map verCs) ∧ Below w.heap.size w w'
def ToWPost (ws : List (ByteArray × ByteArray × Bool)) (n : Nat) (w : World) (e : Ending) (w' : World) : Prop :=
  ∃ g, e = .returned (.slice (some ⟨g, 0, none⟩) n n) ∧ g = w.heap.size ∧ OwnW w' w.heap.size w'.heap.size (some ⟨g, 0, none⟩) n ws ∧ Below w.heap.size w w'

set_option maxRecDepth 100000 in
set_option maxHeartbeats 1000000 in
theorem toVerS_any (A : Option Addr) (n c : Nat) (vs : List (Int × ByteArray × Bool)) (B : Nat) (w : World) (hn : vs.length = n) (h : VersB w B A vs) (hB : B ≤ w.heap.size) (hl : n ≤ 1048576) :
    Calls Try.prog 142 #[.slice A n c] w (ToVPost vs n w) := by
  obtain ⟨i0, hi, hz0, hz1, hz2⟩ := info_parts infoVer
  have HN := Lib.hid hn
  have hge := Nat.le_of_eq hn
  have hle := Nat.le_of_eq hn.symm
  have HS := Lib.hid h
  clear hn h
  go_enter Try.func142, Try.ntmps142
  go_wp2_with (at_make; refine wpList_make_full _ rfl (.tmp 6) (.tmp 6) 113 rfl w.heap.size 120 i0 _ 3 Try.underlying113 hi hz0 hz1 .i64 .i64 _ _ n rfl rfl rfl rfl (by rw [hz2]; omega) (by unfold maxLen; omega) (Nat.le_refl _) ?_; intro w1 hown hgr)
  have hb1 : Below w.heap.size w w1 := (Below.refl _ _).grown hgr (Nat.le_refl _) (by simp)
  have hf0 := fill_made (by omega) hown
  clear hown hgr
  go_loopw [4] (fun i wr => ∃ k : Nat, k ≤ n ∧ i = .int .i64 k ∧ Fill wr w.heap.size n 3 120 ((vs.take k).map verCs) k ∧ Below w.heap.size w wr) (fun i _ => n - (intOf i).toNat)
  case atStart => exact ⟨0, by omega, rfl, by simpa using hf0, hb1⟩
  case round =>
    clear hf0 hb1
    obtain ⟨k, hk, rfl, hf, hb⟩ := hrel
    by_cases hlt : k < n
    · obtain ⟨b, off, rfl, hbB, hc⟩ := HS.out.get (by omega)
      obtain ⟨hc0, hc1, hc2⟩ := hc k (by omega)
      have c0 := (hb.cell (p := ⟨b, off + k * 3, none⟩) (Nat.lt_of_lt_of_le hbB hB)).trans hc0
      have c1 := (hb.cell (p := ⟨b, off + k * 3 + 1, none⟩) (Nat.lt_of_lt_of_le hbB hB)).trans hc1
      have c2 := (hb.cell (p := ⟨b, off + k * 3 + 2, none⟩) (Nat.lt_of_lt_of_le hbB hB)).trans hc2
      have HST := Lib.hid fun W (hW : Below wr.heap.size wr W) => (hf.below hW).snocV (by omega) hlt
      obtain ⟨y, hy⟩ : ∃ y, y = vs[k]'(by omega) := ⟨_, rfl⟩
      rw [← hy] at c0 c1 c2 HST
      obtain ⟨t, s, gb⟩ := y
      simp only at c0 c1 c2 HST
      have HF := Lib.hid hf
      have HB := Lib.hid hb
      clear hc hc0 hc1 hc2 hy hf hb
      go_wp2_with fail
      refine (toVer_any _ _ _ _).mono ?_
      rintro e w4 ⟨rfl, hb4⟩
      have hf := HF.out.below hb4
      obtain ⟨v0, hv0⟩ := hf.cell (k * 3) (by omega)
      obtain ⟨v1, hv1⟩ := hf.cell (k * 3 + 1) (by omega)
      obtain ⟨v2, hv2⟩ := hf.cell (k * 3 + 2) (by omega)
      have hfr0 := hf.free (k * 3)
      have hfr1 := hf.free (k * 3 + 1)
      have hfr2 := hf.free (k * 3 + 2)
      have HST4 := Lib.hid (HST.out w4 hb4)
      have HB4 := Lib.hid (HB.out.trans (hb4.mono HB.out.size))
      clear hf hb4 c0 c1 c2
      go_wp2
      go_roundw
      case rel => exact ⟨k + 1, by omega, by go_num, HST4.out, ((HB4.out.setCell (p := ⟨w.heap.size, k * 3, none⟩) (Nat.le_refl _) _).setCell (p := ⟨w.heap.size, k * 3 + 1, none⟩) (Nat.le_refl _) _).setCell (p := ⟨w.heap.size, k * 3 + 2, none⟩) (Nat.le_refl _) _⟩
      case measure => simp [intOf]; omega
    · have hkn : k = n := by omega
      subst hkn
      rw [List.take_of_length_le (by omega)] at hf
      go_wp2
      go_ret
      exact ⟨w.heap.size, rfl, rfl, Fill.own (by rw [show (vs.map verCs).length = k by simp; exact HN.out]; exact hf) (by simp; exact HN.out) (by unfold maxLen; omega) (Nat.le_refl _) hf.lt, hb⟩
set_option maxRecDepth 100000 in
set_option maxHeartbeats 1000000 in
theorem toWriteS_any (A : Option Addr) (n c : Nat) (ws : List (ByteArray × ByteArray × Bool)) (B : Nat) (w : World) (hn : ws.length = n) (h : WritesB w B A ws) (hB : B ≤ w.heap.size) (hl : n ≤ 1048576) :
    Calls Try.prog 25 #[.slice A n c] w (ToWPost ws n w) := by
  obtain ⟨i0, hi, hz0, hz1, hz2⟩ := info_parts infoWrite
  have HN := Lib.hid hn
  have hge := Nat.le_of_eq hn
  have hle := Nat.le_of_eq hn.symm
  have HS := Lib.hid h
  clear hn h
  go_enter Try.func25, Try.ntmps25
  go_wp2_with (at_make; refine wpList_make_full _ rfl (.tmp 6) (.tmp 6) 40 rfl w.heap.size 64 i0 _ 3 Try.underlying40 hi hz0 hz1 .i64 .i64 _ _ n rfl rfl rfl rfl (by rw [hz2]; omega) (by unfold maxLen; omega) (Nat.le_refl _) ?_; intro w1 hown hgr)
  have hb1 : Below w.heap.size w w1 := (Below.refl _ _).grown hgr (Nat.le_refl _) (by simp)
  have hf0 := fill_made (by omega) hown
  clear hown hgr
  go_loopw [4] (fun i wr => ∃ k : Nat, k ≤ n ∧ i = .int .i64 k ∧ Fill wr w.heap.size n 3 64 ((ws.take k).map wrCs) k ∧ Below w.heap.size w wr) (fun i _ => n - (intOf i).toNat)
  case atStart => exact ⟨0, by omega, rfl, by simpa using hf0, hb1⟩
  case round =>
    clear hf0 hb1
    obtain ⟨k, hk, rfl, hf, hb⟩ := hrel
    by_cases hlt : k < n
    · obtain ⟨b, off, rfl, hbB, hc⟩ := HS.out.get (by omega)
      obtain ⟨hc0, hc1, hc2⟩ := hc k (by omega)
      have c0 := (hb.cell (p := ⟨b, off + k * 3, none⟩) (Nat.lt_of_lt_of_le hbB hB)).trans hc0
      have c1 := (hb.cell (p := ⟨b, off + k * 3 + 1, none⟩) (Nat.lt_of_lt_of_le hbB hB)).trans hc1
      have c2 := (hb.cell (p := ⟨b, off + k * 3 + 2, none⟩) (Nat.lt_of_lt_of_le hbB hB)).trans hc2
      have HST := Lib.hid fun W (hW : Below wr.heap.size wr W) => (hf.below hW).snocW (by omega) hlt
      obtain ⟨y, hy⟩ : ∃ y, y = ws[k]'(by omega) := ⟨_, rfl⟩
      rw [← hy] at c0 c1 c2 HST
      obtain ⟨s1, s2, gb⟩ := y
      simp only at c0 c1 c2 HST
      have HF := Lib.hid hf
      have HB := Lib.hid hb
      clear hc hc0 hc1 hc2 hy hf hb
      go_wp2_with fail
      refine (toWrite_any _ _ _ _).mono ?_
      rintro e w4 ⟨rfl, hb4⟩
      have hf := HF.out.below hb4
      obtain ⟨v0, hv0⟩ := hf.cell (k * 3) (by omega)
      obtain ⟨v1, hv1⟩ := hf.cell (k * 3 + 1) (by omega)
      obtain ⟨v2, hv2⟩ := hf.cell (k * 3 + 2) (by omega)
      have hfr0 := hf.free (k * 3)
      have hfr1 := hf.free (k * 3 + 1)
      have hfr2 := hf.free (k * 3 + 2)
      have HST4 := Lib.hid (HST.out w4 hb4)
      have HB4 := Lib.hid (HB.out.trans (hb4.mono HB.out.size))
      clear hf hb4 c0 c1 c2
      go_wp2
      go_roundw
      case rel => exact ⟨k + 1, by omega, by go_num, HST4.out, ((HB4.out.setCell (p := ⟨w.heap.size, k * 3, none⟩) (Nat.le_refl _) _).setCell (p := ⟨w.heap.size, k * 3 + 1, none⟩) (Nat.le_refl _) _).setCell (p := ⟨w.heap.size, k * 3 + 2, none⟩) (Nat.le_refl _) _⟩
      case measure => simp [intOf]; omega
    · have hkn : k = n := by omega
      subst hkn
      rw [List.take_of_length_le (by omega)] at hf
      go_wp2
      go_ret
      exact ⟨w.heap.size, rfl, rfl, Fill.own (by rw [show (ws.map wrCs).length = k by simp; exact HN.out]; exact hf) (by simp; exact HN.out) (by unfold maxLen; omega) (Nat.le_refl _) hf.lt, hb⟩

/-- What toCell hands back. -/
def ToCPost1 (key : ByteArray) (vs : List (Int × ByteArray × Bool)) (w : World) (e : Ending) (w' : World) : Prop :=
  ∃ A, e = .returned (.agg #[.string key, .slice A vs.length vs.length]) ∧ Own w' w.heap.size w'.heap.size 120 3 A vs.length (vs.map verCs) ∧ Below w.heap.size w w'
set_option maxHeartbeats 1000000 in
theorem toCell_any (key : ByteArray) (A : Option Addr) (n c : Nat) (vs : List (Int × ByteArray × Bool)) (B : Nat) (w : World) (hn : vs.length = n) (h : VersB w B A vs) (hB : B ≤ w.heap.size) (hl : n ≤ 1048576) :
    Calls Try.prog 93 #[.agg #[.string key, .slice A n c]] w (ToCPost1 key vs w) := by
  have HC := Lib.hid (fun W (hW : VersB W B A vs) (hB : B ≤ W.heap.size) => toVerS_any A n c vs B W hn hW hB hl)
  have H := Lib.hid h
  have HN := Lib.hid hn
  clear h hn
  go_enter Try.func93, Try.ntmps93
  go_wp2_with fail
  have hb3 := below3 w (.cells #[.string key, .slice A n c] 112) (.cells #[.string ⟨#[]⟩, .slice none 0 0] 115) (.cells #[.string key, .slice none 0 0] 115)
  refine (HC.out _ (H.out.below (hb3.mono hB)) (Nat.le_trans hB hb3.size)).mono ?_
  rintro e w4 ⟨g, rfl, hg, ho, hb4⟩
  obtain ⟨hc4, hf4⟩ := bcell hb4
  have hz : w.heap.size + 1 + 1 < w4.heap.size := by have := hb4.size; simp at this; omega
  have HO := Lib.hid ho
  have HB := Lib.hid (hb3.trans (hb4.mono hb3.size))
  have HG := Lib.hid hg
  clear hb3 hb4 ho hg
  go_wp2
  have hlt := HO.out
  refine bodyPost_ret (v := .agg #[.string key, .slice (some ⟨g, 0, none⟩) n n]) (by simp [results, Try.results93, go_sem, *]) rfl ⟨some ⟨g, 0, none⟩, by rw [HN.out], ?_, ?_⟩
  · rw [HN.out]
    have hg3 : g = w.heap.size + 3 := by rw [HG.out]; simp
    refine ((HO.out.wider (lo' := w.heap.size) (hi' := w4.heap.size) (by simp; omega) (Nat.le_refl _)).other ?_ _).other ?_ _ |>.other ?_ _ |>.wider (Nat.le_refl _) (by simp [World.setCell])
    all_goals (intro x hx; injection hx with hx; subst hx; simp; omega)
  · exact ((HB.out.setCell (by simp; omega) _).setCell (by simp) _).setCell (by simp) _

/-- What toCellS hands back: cells of the same data, in blocks of their own. -/
def ToCPost (hs : List (ByteArray × Option Addr × Nat × List (Int × ByteArray × Bool))) (n : Nat) (w : World) (e : Ending) (w' : World) : Prop :=
  ∃ (g : Nat) (gs : List (ByteArray × Option Addr × Nat × List (Int × ByteArray × Bool))), e = .returned (.slice (some ⟨g, 0, none⟩) n n) ∧ gs.map dat = hs.map dat ∧ OwnC w' w.heap.size w'.heap.size (some ⟨g, 0, none⟩) n gs ∧ Below w.heap.size w w'

set_option maxRecDepth 100000 in
set_option maxHeartbeats 1000000 in
theorem toCellS_any (A : Option Addr) (n c : Nat) (hs : List (ByteArray × Option Addr × Nat × List (Int × ByteArray × Bool))) (B : Nat) (w : World) (hn : hs.length = n) (h : CellsB w B A hs) (hB : B ≤ w.heap.size) (hm : HSmall hs) :
    Calls Try.prog 32 #[.slice A n c] w (ToCPost hs n w) := by
  obtain ⟨i0, hi, hz0, hz1, hz2⟩ := info_parts infoCell
  obtain ⟨hl, hms⟩ := hm
  have HN := Lib.hid hn
  have hge := Nat.le_of_eq hn
  have hle := Nat.le_of_eq hn.symm
  have hnl : n ≤ 1048576 := by omega
  have HS := Lib.hid h
  have HM := Lib.hid hms
  clear hn h hms hl
  go_enter Try.func32, Try.ntmps32
  go_wp2_with (at_make; refine wpList_make_full _ rfl (.tmp 6) (.tmp 6) 49 rfl w.heap.size 115 i0 _ 2 Try.underlying49 hi hz0 hz1 .i64 .i64 _ _ n rfl rfl rfl rfl (by rw [hz2]; omega) (by unfold maxLen; omega) (Nat.le_refl _) ?_; intro w1 hown hgr)
  have hb1 : Below w.heap.size w w1 := (Below.refl _ _).grown hgr (Nat.le_refl _) (by simp)
  have hf0 := fill_made (by omega) hown
  clear hown hgr
  go_loopw [4] (fun i wr => ∃ (k : Nat) (gs : List (ByteArray × Option Addr × Nat × List (Int × ByteArray × Bool))), k ≤ n ∧ i = .int .i64 k ∧ Hid (gs.length = k) ∧ Hid (gs.map dat = (hs.map dat).take k) ∧ Fill wr w.heap.size n 2 115 (gs.map cellCs) k ∧ VerOwn wr (w.heap.size + 1) wr.heap.size gs ∧ Below w.heap.size w wr) (fun i _ => n - (intOf i).toNat)
  case atStart => exact ⟨0, [], by omega, rfl, rfl, by simp [Hid], by simpa using hf0, VerOwn.nil, hb1⟩
  case round =>
    clear hf0 hb1
    obtain ⟨k, gs, hk, rfl, HGL, HGD, hf, hv, hb⟩ := hrel
    by_cases hlt : k < n
    · obtain ⟨b, off, rfl, hbB, hc⟩ := HS.out.get (by omega)
      obtain ⟨hc0, hc1⟩ := hc k (by omega)
      have c0 := (hb.cell (p := ⟨b, off + k * 2, none⟩) (Nat.lt_of_lt_of_le hbB hB)).trans hc0
      have c1 := (hb.cell (p := ⟨b, off + k * 2 + 1, none⟩) (Nat.lt_of_lt_of_le hbB hB)).trans hc1
      have HV := Lib.hid ((HS.out.vers k (by omega)).below (hb.mono hB))
      have HD1 := Lib.hid (fun a c => take_dats HGD.out (show k < hs.length by omega) a c)
      have hsm := (HM.out _ (List.getElem_mem (show k < hs.length by omega))).2.1
      obtain ⟨y, hy⟩ : ∃ y, y = hs[k]'(by omega) := ⟨_, rfl⟩
      rw [← hy] at c0 c1 HV HD1 hsm
      obtain ⟨key, ad, cp, vs⟩ := y
      simp only at c0 c1 HV HD1 hsm
      have HC := Lib.hid (toCell_any key ad vs.length cp vs B wr rfl HV.out (Nat.le_trans hB hb.size) hsm)
      have HF := Lib.hid hf
      have HB := Lib.hid hb
      have HVO := Lib.hid hv
      have hgw := hf.lt
      clear hc hc0 hc1 hy hf hb hv hsm
      go_wp2_with fail
      refine HC.out.mono ?_
      rintro e w4 ⟨A4, rfl, ho4, hb4⟩
      have hf := HF.out.below hb4
      have HST := Lib.hid (hf.snocC HGL.out hlt key A4 vs.length vs)
      obtain ⟨v0, hv0⟩ := hf.cell (k * 2) (by omega)
      obtain ⟨v1, hv1⟩ := hf.cell (k * 2 + 1) (by omega)
      have hfr0 := hf.free (k * 2)
      have hfr1 := hf.free (k * 2 + 1)
      have HB4 := Lib.hid (HB.out.trans (hb4.mono HB.out.size))
      have HVN := Lib.hid ((HVO.out.below hb4).snoc (key, A4, vs.length, vs) ho4 (by omega) hb4.size)
      clear hf hb4 c0 c1 ho4
      go_wp2
      go_roundw
      case rel =>
        refine ⟨k + 1, gs ++ [(key, A4, vs.length, vs)], by omega, by go_num, ?_, HD1.out _ _, HST.out, ?_, (HB4.out.setCell (p := ⟨w.heap.size, k * 2, none⟩) (Nat.le_refl _) _).setCell (p := ⟨w.heap.size, k * 2 + 1, none⟩) (Nat.le_refl _) _⟩
        · show _ = _
          rw [List.length_append, HGL.out]; rfl
        · have := (HVN.out.store (p := ⟨w.heap.size, k * 2, none⟩) (Nat.lt_succ_self _) (.string key)).store (p := ⟨w.heap.size, k * 2 + 1, none⟩) (Nat.lt_succ_self _) (.slice A4 vs.length vs.length)
          simpa [World.setCell] using this
      case measure => simp [intOf]; omega
    · have hkn : k = n := by omega
      subst hkn
      have hd := HGD.out
      rw [List.take_of_length_le (by simp; omega)] at hd
      have HD2 := Lib.hid hd
      clear hd
      go_wp2
      go_ret
      exact ⟨w.heap.size, gs, rfl, HD2.out, ⟨Fill.own (by rw [List.length_map, HGL.out]; exact hf) (by rw [List.length_map]; exact HGL.out) (by unfold maxLen; omega) (Nat.le_refl _) hf.lt, hv.wider (by omega) (Nat.le_refl _)⟩, hb⟩
end Go.Proofs.Ytgdofgcggblajaa
