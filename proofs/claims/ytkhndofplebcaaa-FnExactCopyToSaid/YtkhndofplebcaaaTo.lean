/-
  Contracts for the laws' helpers that copy what a law is handed: toVerS, toWriteS, toCellS.
-/
import Derived.Test.YtkhndofplebcaaaMem
namespace Go.Proofs.Ytkhndofplebcaaa
open Go.RowKit
set_option linter.unusedVariables false

theorem infoWrite : (Try.prog.info? 121).map (fun i => (i.zero, i.size, i.bytes)) = some (some (.agg #[.string ⟨#[]⟩, .string ⟨#[]⟩, .bool false]), 3, 40) := by kernel_rfl
theorem toWrite_any (a b : ByteArray) (g : Bool) (w : World) :
    Calls Try.prog 113 #[.agg #[.string a, .string b, .bool g]] w fun e w' => e = .returned (.agg #[.string a, .string b, .bool g]) ∧ Below w.heap.size w w' := by
  go_enter Try.func113, Try.ntmps113
  go_wp2
  exact bodyPost_ret (v := .agg #[.string a, .string b, .bool g]) (by simp [results, Try.results113, go_sem]) rfl ⟨rfl, below3 _ _ _ _⟩

section
variable {w : World} {g n k : Nat} {t : TypeId}
theorem Fill.snocV {vs : List (Int × ByteArray × Bool)} (h : Fill w g n 3 t ((vs.take k).map verCs) k) (hk : k < vs.length) (hn : k < n) :
    Fill (((w.setCell ⟨g, k * 3, none⟩ (.int .i64 vs[k].1)).setCell ⟨g, k * 3 + 1, none⟩ (.string vs[k].2.1)).setCell ⟨g, k * 3 + 2, none⟩ (.bool vs[k].2.2)) g n 3 t ((vs.take (k + 1)).map verCs) (k + 1) := by
  have hl : ((vs.take k).map verCs).length = k := by simp; omega
  have e : (vs.take (k + 1)).map verCs = (vs.take k).map verCs ++ [[.int .i64 vs[k].1, .string vs[k].2.1, .bool vs[k].2.2]] := by
    rw [List.take_succ_eq_append_getElem hk, List.map_append]
    rfl
  have h1 := Fill.snoc3 (u := .int .i64 vs[k].1) (v := .string vs[k].2.1) (x := .bool vs[k].2.2) (L := (vs.take k).map verCs) (by rw [hl]; exact h) (by omega)
  rw [hl] at h1
  rw [e]
  have hl2 : ((vs.take k).map verCs ++ [[Value.int .i64 vs[k].1, .string vs[k].2.1, .bool vs[k].2.2]]).length = k + 1 := by rw [List.length_append, hl]; rfl
  rw [hl2] at h1
  exact h1
theorem Fill.snocW {vs : List (ByteArray × ByteArray × Bool)} (h : Fill w g n 3 t ((vs.take k).map wrCs) k) (hk : k < vs.length) (hn : k < n) :
    Fill (((w.setCell ⟨g, k * 3, none⟩ (.string vs[k].1)).setCell ⟨g, k * 3 + 1, none⟩ (.string vs[k].2.1)).setCell ⟨g, k * 3 + 2, none⟩ (.bool vs[k].2.2)) g n 3 t ((vs.take (k + 1)).map wrCs) (k + 1) := by
  have hl : ((vs.take k).map wrCs).length = k := by simp; omega
  have e : (vs.take (k + 1)).map wrCs = (vs.take k).map wrCs ++ [[.string vs[k].1, .string vs[k].2.1, .bool vs[k].2.2]] := by
    rw [List.take_succ_eq_append_getElem hk, List.map_append]
    rfl
  have h1 := Fill.snoc3 (u := .string vs[k].1) (v := .string vs[k].2.1) (x := .bool vs[k].2.2) (L := (vs.take k).map wrCs) (by rw [hl]; exact h) (by omega)
  rw [hl] at h1
  rw [e]
  have hl2 : ((vs.take k).map wrCs ++ [[Value.string vs[k].1, .string vs[k].2.1, .bool vs[k].2.2]]).length = k + 1 := by rw [List.length_append, hl]; rfl
  rw [hl2] at h1
  exact h1
theorem Fill.snocC {gs : List (ByteArray × Option Addr × Nat × List (Int × ByteArray × Bool))} (h : Fill w g n 2 t (gs.map cellCs) k) (hk : gs.length = k) (hn : k < n) (key : ByteArray) (A : Option Addr) (c : Nat) (vs : List (Int × ByteArray × Bool)) :
    Fill ((w.setCell ⟨g, k * 2, none⟩ (.string key)).setCell ⟨g, k * 2 + 1, none⟩ (.slice A vs.length c)) g n 2 t ((gs ++ [(key, A, c, vs)]).map cellCs) (k + 1) := by
  have hl : (gs.map cellCs).length = k := by simpa using hk
  have h1 := Fill.snoc2 (u := .string key) (v := .slice A vs.length c) (L := gs.map cellCs) (by rw [hl]; exact h) (by omega)
  rw [hl] at h1
  have hl2 : (gs.map cellCs ++ [[Value.string key, .slice A vs.length c]]).length = k + 1 := by rw [List.length_append, hl]; rfl
  rw [hl2] at h1
  rw [List.map_append]
  exact h1
end

def ToWPost (ws : List (ByteArray × ByteArray × Bool)) (n : Nat) (w : World) (e : Ending) (w' : World) : Prop :=
  ∃ g, e = .returned (.slice (some ⟨g, 0, none⟩) n n) ∧ g = w.heap.size ∧ OwnW w' w.heap.size w'.heap.size (some ⟨g, 0, none⟩) n ws ∧ Below w.heap.size w w'

set_option maxRecDepth 100000 in
set_option maxHeartbeats 1000000 in
theorem toWriteS_any (A : Option Addr) (n c : Nat) (ws : List (ByteArray × ByteArray × Bool)) (B : Nat) (w : World) (hn : ws.length = n) (h : WritesB w B A ws) (hB : B ≤ w.heap.size) (hl : n ≤ 1048576) :
    Calls Try.prog 63 #[.slice A n c] w (ToWPost ws n w) := by
  obtain ⟨i0, hi, hz0, hz1, hz2⟩ := info_parts infoWrite
  have HN := Lib.hid hn
  have hge := Nat.le_of_eq hn
  have hle := Nat.le_of_eq hn.symm
  have HS := Lib.hid h
  clear hn h
  go_enter Try.func63, Try.ntmps63
  go_wp2_with (at_make; refine wpList_make_full _ rfl (.tmp 6) (.tmp 6) 31 rfl w.heap.size 121 i0 _ 3 Try.underlying31 hi hz0 hz1 .i64 .i64 _ _ n rfl rfl rfl rfl (by rw [hz2]; omega) (by unfold maxLen; omega) (Nat.le_refl _) ?_; intro w1 hown hgr)
  have hb1 : Below w.heap.size w w1 := (Below.refl _ _).grown hgr (Nat.le_refl _) (by simp)
  have hf0 := fill_made (by omega) hown
  clear hown hgr
  go_loopw [4] (fun i wr => ∃ k : Nat, k ≤ n ∧ i = .int .i64 k ∧ Fill wr w.heap.size n 3 121 ((ws.take k).map wrCs) k ∧ Below w.heap.size w wr) (fun i _ => n - (intOf i).toNat)
  case atStart => exact ⟨0, by omega, rfl, by simpa using hf0, hb1⟩
  case round =>
    clear hf0 hb1
    obtain ⟨k, hk, rfl, hf, hb⟩ := hrel
    by_cases hlt : k < n
    · obtain ⟨b, off, rfl, hbB, hc⟩ := HS.out.get (by omega)
      obtain ⟨hc0, hc1, hc2⟩ := hc k (by omega)
      have c0 := (hb.cell (p := ⟨b, off + k * 3, none⟩) (Nat.lt_of_lt_of_le hbB hB)).trans hc0
      have c1 := (hb.cell (p := ⟨b, off + k * 3 + 1, none⟩) (Nat.lt_of_lt_of_le hbB hB)).trans hc1
      have c2 := (hb.cell (p := ⟨b, off + k * 3 + 2, none⟩) (Nat.lt_of_lt_of_le hbB hB)).trans hc2
      have HST := Lib.hid fun W (hW : Below wr.heap.size wr W) => (hf.below hW).snocW (by omega) hlt
      obtain ⟨y, hy⟩ : ∃ y, y = ws[k]'(by omega) := ⟨_, rfl⟩
      rw [← hy] at c0 c1 c2 HST
      obtain ⟨s1, s2, gb⟩ := y
      simp only at c0 c1 c2 HST
      have HF := Lib.hid hf
      have HB := Lib.hid hb
      clear hc hc0 hc1 hc2 hy hf hb
      go_wp2_with fail
      refine (toWrite_any _ _ _ _).mono ?_
      rintro e w4 ⟨rfl, hb4⟩
      have hf := HF.out.below hb4
      obtain ⟨v0, hv0⟩ := hf.cell (k * 3) (by omega)
      obtain ⟨v1, hv1⟩ := hf.cell (k * 3 + 1) (by omega)
      obtain ⟨v2, hv2⟩ := hf.cell (k * 3 + 2) (by omega)
      have hfr0 := hf.free (k * 3)
      have hfr1 := hf.free (k * 3 + 1)
      have hfr2 := hf.free (k * 3 + 2)
      have HST4 := Lib.hid (HST.out w4 hb4)
      have HB4 := Lib.hid (HB.out.trans (hb4.mono HB.out.size))
      clear hf hb4 c0 c1 c2
      go_wp2
      go_roundw
      case rel => exact ⟨k + 1, by omega, by go_num, HST4.out, ((HB4.out.setCell (p := ⟨w.heap.size, k * 3, none⟩) (Nat.le_refl _) _).setCell (p := ⟨w.heap.size, k * 3 + 1, none⟩) (Nat.le_refl _) _).setCell (p := ⟨w.heap.size, k * 3 + 2, none⟩) (Nat.le_refl _) _⟩
      case measure => simp [intOf]; omega
    · have hkn : k = n := by omega
      subst hkn
      rw [List.take_of_length_le (by omega)] at hf
      go_wp2
      go_ret
      exact ⟨w.heap.size, rfl, rfl, Fill.own (by rw [show (ws.map wrCs).length = k by simp; exact HN.out]; exact hf) (by simp; exact HN.out) (by unfold maxLen; omega) (Nat.le_refl _) hf.lt, hb⟩

end Go.Proofs.Ytkhndofplebcaaa
