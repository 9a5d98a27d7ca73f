/-
  Contracts for the laws' helpers that compare lists, at the same data: eqVerS, eqWriteS, eqCellS.
-/
import Derived.Test.YtgdofgcggblajaaTo
namespace Go.Proofs.Ytgdofgcggblajaa
open Go.RowKit
set_option linter.unusedVariables false

theorem eqVer_same (t : Int) (s : ByteArray) (g : Bool) (w : World) :
    Calls Try.prog 177 #[.agg #[.int .i64 t, .string s, .bool g], .agg #[.int .i64 t, .string s, .bool g]] w fun e w' => e = .returned (.bool true) ∧ Below w.heap.size w w' := by
  cases g <;>
  · go_enter Try.func177, Try.ntmps177
    go_wp2
    go_ret
    exact ⟨rfl, below2 _ _ _⟩
theorem eqWrite_same (a b : ByteArray) (g : Bool) (w : World) :
    Calls Try.prog 88 #[.agg #[.string a, .string b, .bool g], .agg #[.string a, .string b, .bool g]] w fun e w' => e = .returned (.bool true) ∧ Below w.heap.size w w' := by
  cases g <;>
  · go_enter Try.func88, Try.ntmps88
    go_wp2
    go_ret
    exact ⟨rfl, below2 _ _ _⟩

set_option maxRecDepth 100000 in
set_option maxHeartbeats 1000000 in
theorem eqVerS_same (A A' : Option Addr) (n c c' : Nat) (vs : List (Int × ByteArray × Bool)) (B : Nat) (w : World) (hn : vs.length = n) (h : VersB w B A vs) (h' : VersB w B A' vs) (hB : B ≤ w.heap.size) (hl : n ≤ 1048576) :
    Calls Try.prog 147 #[.slice A n c, .slice A' n c'] w fun e w' => e = .returned (.bool true) ∧ Below w.heap.size w w' := by
  have hge := Nat.le_of_eq hn
  have hle := Nat.le_of_eq hn.symm
  have HS := Lib.hid h
  have HS' := Lib.hid h'
  clear hn h h'
  go_enter Try.func147, Try.ntmps147
  go_wp2
  go_loopw [5] (fun i wr => ∃ k : Nat, k ≤ n ∧ i = .int .i64 k ∧ Below w.heap.size w wr) (fun i _ => n - (intOf i).toNat)
  case atStart => exact ⟨0, by omega, rfl, Below.refl _ _⟩
  case round =>
    obtain ⟨k, hk, rfl, hb⟩ := hrel
    by_cases hlt : k < n
    · obtain ⟨b, off, rfl, hbB, hc⟩ := HS.out.get (by omega)
      obtain ⟨b', off', rfl, hbB', hc'⟩ := HS'.out.get (by omega)
      obtain ⟨hc0, hc1, hc2⟩ := hc k (by omega)
      obtain ⟨hd0, hd1, hd2⟩ := hc' k (by omega)
      have c0 := (hb.cell (p := ⟨b, off + k * 3, none⟩) (Nat.lt_of_lt_of_le hbB hB)).trans hc0
      have c1 := (hb.cell (p := ⟨b, off + k * 3 + 1, none⟩) (Nat.lt_of_lt_of_le hbB hB)).trans hc1
      have c2 := (hb.cell (p := ⟨b, off + k * 3 + 2, none⟩) (Nat.lt_of_lt_of_le hbB hB)).trans hc2
      have d0 := (hb.cell (p := ⟨b', off' + k * 3, none⟩) (Nat.lt_of_lt_of_le hbB' hB)).trans hd0
      have d1 := (hb.cell (p := ⟨b', off' + k * 3 + 1, none⟩) (Nat.lt_of_lt_of_le hbB' hB)).trans hd1
      have d2 := (hb.cell (p := ⟨b', off' + k * 3 + 2, none⟩) (Nat.lt_of_lt_of_le hbB' hB)).trans hd2
      obtain ⟨y, hy⟩ : ∃ y, y = vs[k]'(by omega) := ⟨_, rfl⟩
      rw [← hy] at c0 c1 c2 d0 d1 d2
      obtain ⟨t, s, gb⟩ := y
      simp only at c0 c1 c2 d0 d1 d2
      have hk0 : (0 : Int) ≤ (k : Int) := by omega
      have hkn : (k : Int) < (n : Int) := by omega
      have hb1 : b < wr.heap.size := Nat.lt_of_lt_of_le hbB (Nat.le_trans hB hb.size)
      have hb2 : b' < wr.heap.size := Nat.lt_of_lt_of_le hbB' (Nat.le_trans hB hb.size)
      have HB := Lib.hid hb
      clear hc hc' hc0 hc1 hc2 hd0 hd1 hd2 hy hb
      go_wp2_with fail
      go_region_held3 (fun w' => w'.cell? ⟨b, off + k * 3, none⟩ = some (.int .i64 t) ∧ w'.cell? ⟨b, off + k * 3 + 1, none⟩ = some (.string s) ∧ w'.cell? ⟨b, off + k * 3 + 2, none⟩ = some (.bool gb) ∧ w'.cell? ⟨b', off' + k * 3, none⟩ = some (.int .i64 t) ∧ w'.cell? ⟨b', off' + k * 3 + 1, none⟩ = some (.string s) ∧ w'.cell? ⟨b', off' + k * 3 + 2, none⟩ = some (.bool gb))
        (first | exact ⟨c0, c1, c2, d0, d1, d2⟩ | (go_split_ands; exact ⟨kept2 hb4 c0 hb1, kept2 hb4 c1 hb1, kept2 hb4 c2 hb1, kept2 hb4 d0 hb2, kept2 hb4 d1 hb2, kept2 hb4 d2 hb2⟩))
        ((go_at_call 177; (with_reducible refine (eqVer_same _ _ _ _).mono ?_); rintro e w4 ⟨rfl, hb4⟩))
      have HBB := Lib.hid (Below.trans (b := wr.drew) HB.out.drew (hb4.mono HB.out.size))
      clear hb4
      go_wp2
      go_roundw
      case rel => exact ⟨k + 1, by omega, by go_num, HBB.out⟩
      case measure => simp [intOf]; omega
    · go_wp2
      go_ret
      exact ⟨rfl, hb⟩
set_option maxRecDepth 100000 in
set_option maxHeartbeats 1000000 in
theorem eqWriteS_same (A A' : Option Addr) (n c c' : Nat) (ws : List (ByteArray × ByteArray × Bool)) (B : Nat) (w : World) (hn : ws.length = n) (h : WritesB w B A ws) (h' : WritesB w B A' ws) (hB : B ≤ w.heap.size) (hl : n ≤ 1048576) :
    Calls Try.prog 27 #[.slice A n c, .slice A' n c'] w fun e w' => e = .returned (.bool true) ∧ Below w.heap.size w w' := by
  have hge := Nat.le_of_eq hn
  have hle := Nat.le_of_eq hn.symm
  have HS := Lib.hid h
  have HS' := Lib.hid h'
  clear hn h h'
  go_enter Try.func27, Try.ntmps27
  go_wp2
  go_loopw [5] (fun i wr => ∃ k : Nat, k ≤ n ∧ i = .int .i64 k ∧ Below w.heap.size w wr) (fun i _ => n - (intOf i).toNat)
  case atStart => exact ⟨0, by omega, rfl, Below.refl _ _⟩
  case round =>
    obtain ⟨k, hk, rfl, hb⟩ := hrel
    by_cases hlt : k < n
    · obtain ⟨b, off, rfl, hbB, hc⟩ := HS.out.get (by omega)
      obtain ⟨b', off', rfl, hbB', hc'⟩ := HS'.out.get (by omega)
      obtain ⟨hc0, hc1, hc2⟩ := hc k (by omega)
      obtain ⟨hd0, hd1, hd2⟩ := hc' k (by omega)
      have c0 := (hb.cell (p := ⟨b, off + k * 3, none⟩) (Nat.lt_of_lt_of_le hbB hB)).trans hc0
      have c1 := (hb.cell (p := ⟨b, off + k * 3 + 1, none⟩) (Nat.lt_of_lt_of_le hbB hB)).trans hc1
      have c2 := (hb.cell (p := ⟨b, off + k * 3 + 2, none⟩) (Nat.lt_of_lt_of_le hbB hB)).trans hc2
      have d0 := (hb.cell (p := ⟨b', off' + k * 3, none⟩) (Nat.lt_of_lt_of_le hbB' hB)).trans hd0
      have d1 := (hb.cell (p := ⟨b', off' + k * 3 + 1, none⟩) (Nat.lt_of_lt_of_le hbB' hB)).trans hd1
      have d2 := (hb.cell (p := ⟨b', off' + k * 3 + 2, none⟩) (Nat.lt_of_lt_of_le hbB' hB)).trans hd2
      obtain ⟨y, hy⟩ : ∃ y, y = ws[k]'(by omega) := ⟨_, rfl⟩
      rw [← hy] at c0 c1 c2 d0 d1 d2
      obtain ⟨t, s, gb⟩ := y
      simp only at c0 c1 c2 d0 d1 d2
      have hk0 : (0 : Int) ≤ (k : Int) := by omega
      have hkn : (k : Int) < (n : Int) := by omega
      have hb1 : b < wr.heap.size := Nat.lt_of_lt_of_le hbB (Nat.le_trans hB hb.size)
      have hb2 : b' < wr.heap.size := Nat.lt_of_lt_of_le hbB' (Nat.le_trans hB hb.size)
      have HB := Lib.hid hb
      clear hc hc' hc0 hc1 hc2 hd0 hd1 hd2 hy hb
      go_wp2_with fail
      go_region_held3 (fun w' => w'.cell? ⟨b, off + k * 3, none⟩ = some (.string t) ∧ w'.cell? ⟨b, off + k * 3 + 1, none⟩ = some (.string s) ∧ w'.cell? ⟨b, off + k * 3 + 2, none⟩ = some (.bool gb) ∧ w'.cell? ⟨b', off' + k * 3, none⟩ = some (.string t) ∧ w'.cell? ⟨b', off' + k * 3 + 1, none⟩ = some (.string s) ∧ w'.cell? ⟨b', off' + k * 3 + 2, none⟩ = some (.bool gb))
        (first | exact ⟨c0, c1, c2, d0, d1, d2⟩ | (go_split_ands; exact ⟨kept2 hb4 c0 hb1, kept2 hb4 c1 hb1, kept2 hb4 c2 hb1, kept2 hb4 d0 hb2, kept2 hb4 d1 hb2, kept2 hb4 d2 hb2⟩))
        ((go_at_call 88; (with_reducible refine (eqWrite_same _ _ _ _).mono ?_); rintro e w4 ⟨rfl, hb4⟩))
      have HBB := Lib.hid (Below.trans (b := wr.drew) HB.out.drew (hb4.mono HB.out.size))
      clear hb4
      go_wp2
      go_roundw
      case rel => exact ⟨k + 1, by omega, by go_num, HBB.out⟩
      case measure => simp [intOf]; omega
    · go_wp2
      go_ret
      exact ⟨rfl, hb⟩

set_option maxHeartbeats 1000000 in
theorem eqCell_same (key : ByteArray) (A A' : Option Addr) (n c c' : Nat) (vs : List (Int × ByteArray × Bool)) (B : Nat) (w : World) (hn : vs.length = n) (h : VersB w B A vs) (h' : VersB w B A' vs) (hB : B ≤ w.heap.size) (hl : n ≤ 1048576) :
    Calls Try.prog 98 #[.agg #[.string key, .slice A n c], .agg #[.string key, .slice A' n c']] w fun e w' => e = .returned (.bool true) ∧ Below w.heap.size w w' := by
  have HC := Lib.hid (fun W (hW : VersB W B A vs) (hW' : VersB W B A' vs) (hB : B ≤ W.heap.size) => eqVerS_same A A' n c c' vs B W hn hW hW' hB hl)
  have H := Lib.hid h
  have H' := Lib.hid h'
  clear h h' hn
  go_enter Try.func98, Try.ntmps98
  go_wp2_with fail
  have hb3 := below2 w (.cells #[.string key, .slice A n c] 115) (.cells #[.string key, .slice A' n c'] 115)
  refine (HC.out _ (H.out.below (hb3.mono hB)) (H'.out.below (hb3.mono hB)) (Nat.le_trans hB hb3.size)).mono ?_
  rintro e w4 ⟨rfl, hb4⟩
  have HB := Lib.hid (hb3.trans (hb4.mono hb3.size))
  clear hb3 hb4
  go_wp2
  go_ret
  exact ⟨rfl, HB.out⟩

set_option maxRecDepth 100000 in
set_option maxHeartbeats 1000000 in
theorem eqCellS_same (A A' : Option Addr) (n c c' : Nat) (hs gs : List (ByteArray × Option Addr × Nat × List (Int × ByteArray × Bool))) (B : Nat) (w : World) (hn : hs.length = n) (hd : gs.map dat = hs.map dat) (h : CellsB w B A hs) (h' : CellsB w B A' gs) (hB : B ≤ w.heap.size) (hm : HSmall hs) :
    Calls Try.prog 34 #[.slice A n c, .slice A' n c'] w fun e w' => e = .returned (.bool true) ∧ Below w.heap.size w w' := by
  obtain ⟨hl, hms⟩ := hm
  have hge := Nat.le_of_eq hn
  have hle := Nat.le_of_eq hn.symm
  have hle2 : n ≤ gs.length := by rw [dats_len hd]; omega
  have hnl : n ≤ 1048576 := by omega
  have HS := Lib.hid h
  have HS' := Lib.hid h'
  have HDD := Lib.hid hd
  have HM := Lib.hid hms
  clear hn h h' hd hms hl
  go_enter Try.func34, Try.ntmps34
  go_wp2
  go_loopw [5] (fun i wr => ∃ k : Nat, k ≤ n ∧ i = .int .i64 k ∧ Below w.heap.size w wr) (fun i _ => n - (intOf i).toNat)
  case atStart => exact ⟨0, by omega, rfl, Below.refl _ _⟩
  case round =>
    obtain ⟨k, hk, rfl, hb⟩ := hrel
    by_cases hlt : k < n
    · obtain ⟨b, off, rfl, hbB, hc⟩ := HS.out.get (by omega)
      obtain ⟨b', off', rfl, hbB', hc'⟩ := HS'.out.get (by omega)
      obtain ⟨hc0, hc1⟩ := hc k (by omega)
      obtain ⟨hd0, hd1⟩ := hc' k (by omega)
      obtain ⟨e1, e2⟩ := dats_at HDD.out k (by omega) (by omega)
      rw [e1] at hd0
      rw [e2] at hd1
      have c0 := (hb.cell (p := ⟨b, off + k * 2, none⟩) (Nat.lt_of_lt_of_le hbB hB)).trans hc0
      have c1 := (hb.cell (p := ⟨b, off + k * 2 + 1, none⟩) (Nat.lt_of_lt_of_le hbB hB)).trans hc1
      have d0 := (hb.cell (p := ⟨b', off' + k * 2, none⟩) (Nat.lt_of_lt_of_le hbB' hB)).trans hd0
      have d1 := (hb.cell (p := ⟨b', off' + k * 2 + 1, none⟩) (Nat.lt_of_lt_of_le hbB' hB)).trans hd1
      have hv := (HS.out.vers k (by omega)).below (hb.mono hB)
      have hv' := (HS'.out.vers k (by omega)).below (hb.mono hB)
      rw [e2] at hv'
      have hsm := (HM.out _ (List.getElem_mem (show k < hs.length by omega))).2.1
      obtain ⟨x, hx⟩ : ∃ x, x = hs[k]'(by omega) := ⟨_, rfl⟩
      obtain ⟨y, hy⟩ : ∃ y, y = gs[k]'(by omega) := ⟨_, rfl⟩
      rw [← hx] at c0 c1 d0 d1 hv hv' hsm
      rw [← hy] at d1 hv'
      obtain ⟨key, ad, cp, vs⟩ := x
      obtain ⟨key', ad', cp', vs'⟩ := y
      simp only at c0 c1 d0 d1 hv hv' hsm
      have hk0 : (0 : Int) ≤ (k : Int) := by omega
      have hkn : (k : Int) < (n : Int) := by omega
      have hb1 : b < wr.heap.size := Nat.lt_of_lt_of_le hbB (Nat.le_trans hB hb.size)
      have hb2 : b' < wr.heap.size := Nat.lt_of_lt_of_le hbB' (Nat.le_trans hB hb.size)
      have HB := Lib.hid hb
      have HCall := Lib.hid (eqCell_same key ad ad' vs.length cp cp' vs B wr.drew rfl hv hv' (Nat.le_trans hB hb.size) hsm)
      clear hc hc' hc0 hc1 hd0 hd1 hx hy hb e1 e2 hv hv' hsm
      go_wp2_with fail
      go_region_held3 (fun w' => w'.cell? ⟨b, off + k * 2, none⟩ = some (.string key) ∧ w'.cell? ⟨b, off + k * 2 + 1, none⟩ = some (.slice ad vs.length cp) ∧ w'.cell? ⟨b', off' + k * 2, none⟩ = some (.string key) ∧ w'.cell? ⟨b', off' + k * 2 + 1, none⟩ = some (.slice ad' vs.length cp'))
        (first | exact ⟨c0, c1, d0, d1⟩ | (go_split_ands; exact ⟨kept2 hb4 c0 hb1, kept2 hb4 c1 hb1, kept2 hb4 d0 hb2, kept2 hb4 d1 hb2⟩))
        ((go_at_call 98; (with_reducible refine HCall.out.mono ?_); rintro e w4 ⟨rfl, hb4⟩))
      have HBB := Lib.hid (Below.trans (b := wr.drew) HB.out.drew (hb4.mono HB.out.size))
      clear hb4
      go_wp2
      go_roundw
      case rel => exact ⟨k + 1, by omega, by go_num, HBB.out⟩
      case measure => simp [intOf]; omega
    · go_wp2
      go_ret
      exact ⟨rfl, hb⟩
end Go.Proofs.Ytgdofgcggblajaa
