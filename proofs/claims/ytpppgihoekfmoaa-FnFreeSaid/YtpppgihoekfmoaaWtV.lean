/-
  vWatch of the laws, at the same data.
-/
import Derived.Test.YtpppgihoekfmoaaWtMem
import Derived.Test.YtpppgihoekfmoaaCur
import Derived.Deep.RegionHeld3
import Derived.Deep.QuietTactic
import Derived.BigQuiet
namespace Go.Proofs.Ytpppgihoekfmoaa.Wt
open Go.RowKit
set_option linter.unusedVariables false
set_option linter.unusedSimpArgs false

set_option maxRecDepth 100000 in
set_option maxHeartbeats 4000000 in
theorem vWatch_same (tm : Int) (A A' C C' : Option Addr) (n c n' c' d d' : Nat) (is : List Int) (ls : List (Int × Int × Int)) (B : Nat) (w : World) (hn : is.length = n) (hn' : ls.length = n') (h : CksB w B A is) (h' : LesB w B A' ls) (k : CksB w B C is) (k' : LesB w B C' ls) (hB : B ≤ w.heap.size) (hN : n ≤ 1048576) (hN' : n' ≤ 2000000) :
    Calls Try.prog 10 #[.agg #[.int .i64 tm, .slice A n c, .slice A' n' c'], .agg #[.int .i64 tm, .slice C n d, .slice C' n' d']] w fun e w' => e = .returned (.bool true) ∧ Below w.heap.size w w' := by
  have hge := Nat.le_of_eq hn
  have hle := Nat.le_of_eq hn.symm
  have hge' := Nat.le_of_eq hn'
  have hle' := Nat.le_of_eq hn'.symm
  have HP := Lib.hid h
  have HP' := Lib.hid k
  have HQ := Lib.hid h'
  have HQ' := Lib.hid k'
  have HB0 := Lib.hid (below2 w (.cells #[.int .i64 tm, .slice A n c, .slice A' n' c'] 30) (.cells #[.int .i64 tm, .slice C n d, .slice C' n' d'] 30))
  have HK0 := Lib.hid (((below1 (w.alloc (.cells #[.int .i64 tm, .slice A n c, .slice A' n' c'] 30)) (.cells #[.int .i64 tm, .slice C n d, .slice C' n' d'] 30)).block w.heap.size (by simp)).trans (heap_alloc_new w (.cells #[.int .i64 tm, .slice A n c, .slice A' n' c'] 30)))
  have HL0 := Lib.hid (alloc_snd w (.cells #[.int .i64 tm, .slice A n c, .slice A' n' c'] 30) (.cells #[.int .i64 tm, .slice C n d, .slice C' n' d'] 30))
  clear hn hn' h h' k k'
  go_enter Try.func10, Try.ntmps10
  go_wp2
  go_loopw [5] (fun i wr => ∃ k : Nat, k ≤ n ∧ i = .int .i64 k ∧ Hid (Below w.heap.size w wr) ∧ Hid (wr.heap[w.heap.size]? = some (.cells #[.int .i64 tm, .slice A n c, .slice A' n' c'] 30 (0, 0))) ∧ Hid (wr.heap[w.heap.size + 1]? = some (.cells #[.int .i64 tm, .slice C n d, .slice C' n' d'] 30 (0, 0)))) (fun i _ => n - (intOf i).toNat)
  case atStart => exact ⟨0, by omega, rfl, HB0, HK0, HL0⟩
  case round =>
    obtain ⟨k, hk, rfl, HB, HK, HL⟩ := hrel
    have k0 := cell_blk (i := 0) HK.out rfl
    have k1 := cell_blk (i := 1) HK.out rfl
    have k2 := cell_blk (i := 2) HK.out rfl
    have l0 := cell_blk (i := 0) HL.out rfl
    have l1 := cell_blk (i := 1) HL.out rfl
    have l2 := cell_blk (i := 2) HL.out rfl
    by_cases hlt : k < n
    · obtain ⟨b, off, rfl, hbB, hc⟩ := HP.out.get (by omega)
      obtain ⟨b', off', rfl, hbB', hc'⟩ := HP'.out.get (by omega)
      have hb := HB.out
      have c0 := (hb.cell (p := ⟨b, off + k, none⟩) (Nat.lt_of_lt_of_le hbB hB)).trans (hc k (by omega))
      have d0 := (hb.cell (p := ⟨b', off' + k, none⟩) (Nat.lt_of_lt_of_le hbB' hB)).trans (hc' k (by omega))
      obtain ⟨y, hy⟩ : ∃ y, y = is[k]'(by omega) := ⟨_, rfl⟩
      rw [← hy] at c0 d0
      clear hc hc' hy hb
      have hk0 : (0 : Int) ≤ (k : Int) := by omega
      have hkn : (k : Int) < (n : Int) := by omega
      go_wp2_with fail
      go_quiet (fail)
      go_wp2
      go_roundw
      case rel => exact ⟨k + 1, by omega, by go_num, Lib.hid (below_drewN HB.out _), HK, HL⟩
      case measure => simp [intOf]; omega
    · go_wp2
      clear k0 k1 k2 l0 l1 l2
      go_loopw [6] (fun i wr => ∃ k : Nat, k ≤ n' ∧ i = .int .i64 k ∧ Hid (Below w.heap.size w wr) ∧ Hid (wr.heap[w.heap.size]? = some (.cells #[.int .i64 tm, .slice A n c, .slice A' n' c'] 30 (0, 0))) ∧ Hid (wr.heap[w.heap.size + 1]? = some (.cells #[.int .i64 tm, .slice C n d, .slice C' n' d'] 30 (0, 0)))) (fun i _ => n' - (intOf i).toNat)
      case atStart => exact ⟨0, by omega, rfl, HB, HK, HL⟩
      case round =>
        obtain ⟨k, hk, rfl, HB, HK, HL⟩ := hrel
        have k0 := cell_blk (i := 0) HK.out rfl
        have k1 := cell_blk (i := 1) HK.out rfl
        have k2 := cell_blk (i := 2) HK.out rfl
        have l0 := cell_blk (i := 0) HL.out rfl
        have l1 := cell_blk (i := 1) HL.out rfl
        have l2 := cell_blk (i := 2) HL.out rfl
        by_cases hlt : k < n'
        · obtain ⟨b, off, rfl, hbB, hc⟩ := HQ.out.get (by omega)
          obtain ⟨b', off', rfl, hbB', hc'⟩ := HQ'.out.get (by omega)
          have hb := HB.out
          obtain ⟨hc0, hc1, hc2⟩ := hc k (by omega)
          obtain ⟨hd0, hd1, hd2⟩ := hc' k (by omega)
          have c0 := (hb.cell (p := ⟨b, off + k * 3, none⟩) (Nat.lt_of_lt_of_le hbB hB)).trans hc0
          have d0 := (hb.cell (p := ⟨b', off' + k * 3, none⟩) (Nat.lt_of_lt_of_le hbB' hB)).trans hd0
          have c1 := (hb.cell (p := ⟨b, off + k * 3 + 1, none⟩) (Nat.lt_of_lt_of_le hbB hB)).trans hc1
          have d1 := (hb.cell (p := ⟨b', off' + k * 3 + 1, none⟩) (Nat.lt_of_lt_of_le hbB' hB)).trans hd1
          have c2 := (hb.cell (p := ⟨b, off + k * 3 + 2, none⟩) (Nat.lt_of_lt_of_le hbB hB)).trans hc2
          have d2 := (hb.cell (p := ⟨b', off' + k * 3 + 2, none⟩) (Nat.lt_of_lt_of_le hbB' hB)).trans hd2
          obtain ⟨y, hy⟩ : ∃ y, y = ls[k]'(by omega) := ⟨_, rfl⟩
          rw [← hy] at c0 c1 c2 d0 d1 d2
          obtain ⟨s0, s1, s2⟩ := y
          simp only at c0 c1 c2 d0 d1 d2
          clear hc hc' hc0 hc1 hc2 hd0 hd1 hd2 hy hb
          have hk0 : (0 : Int) ≤ (k : Int) := by omega
          have hkn : (k : Int) < (n' : Int) := by omega
          go_wp2_with fail
          go_quiet (fail)
          go_wp2
          go_roundw
          case rel => exact ⟨k + 1, by omega, by go_num, Lib.hid (below_drewN HB.out _), HK, HL⟩
          case measure => simp [intOf]; omega
        · go_wp2
          go_ret
          exact ⟨rfl, HB.out⟩
end Go.Proofs.Ytpppgihoekfmoaa.Wt
