/-
  Contracts for the laws' helpers that compare polls, at the same data: eqVoter, eqVoterS, eqWon, eqWonS, eqPoll.
-/
import Derived.Test.YtojplmjoipjabaaPoMem
import Derived.Test.YtojplmjoipjabaaNtEq
namespace Go.Proofs.Ytojplmjoipjabaa.Po
open Go.RowKit Nt
set_option linter.unusedVariables false
set_option linter.unusedSimpArgs false

theorem eqWon_same (a b : Int) (w : World) :
    Calls Try.prog 102 #[.agg #[.int .i64 a, .int .i64 b], .agg #[.int .i64 a, .int .i64 b]] w fun e w' => e = .returned (.bool true) ∧ Below w.heap.size w w' := by
  go_enter Try.func102, Try.ntmps102
  go_wp2
  go_ret
  exact ⟨rfl, below2 _ _ _⟩
set_option maxRecDepth 100000 in
set_option maxHeartbeats 1000000 in
theorem eqWonS_same (A A' : Option Addr) (n c c' : Nat) (ws : List (Int × Int)) (B : Nat) (w : World) (hn : ws.length = n) (h : WonB w B A ws) (h' : WonB w B A' ws) (hB : B ≤ w.heap.size) (hl : n ≤ 2000000) :
    Calls Try.prog 57 #[.slice A n c, .slice A' n c'] w fun e w' => e = .returned (.bool true) ∧ Below w.heap.size w w' := by
  have hge := Nat.le_of_eq hn
  have hle := Nat.le_of_eq hn.symm
  have HS := Lib.hid h
  have HS' := Lib.hid h'
  clear hn h h'
  go_enter Try.func57, Try.ntmps57
  go_wp2
  go_loopw [5] (fun i wr => ∃ k : Nat, k ≤ n ∧ i = .int .i64 k ∧ Below w.heap.size w wr) (fun i _ => n - (intOf i).toNat)
  case atStart => exact ⟨0, by omega, rfl, Below.refl _ _⟩
  case round =>
    obtain ⟨k, hk, rfl, hb⟩ := hrel
    by_cases hlt : k < n
    · obtain ⟨b, off, rfl, hbB, hc⟩ := HS.out.get (by omega)
      obtain ⟨b', off', rfl, hbB', hc'⟩ := HS'.out.get (by omega)
      obtain ⟨hc0, hc1⟩ := hc k (by omega)
      obtain ⟨hd0, hd1⟩ := hc' k (by omega)
      have c0 := (hb.cell (p := ⟨b, off + k * 2, none⟩) (Nat.lt_of_lt_of_le hbB hB)).trans hc0
      have c1 := (hb.cell (p := ⟨b, off + k * 2 + 1, none⟩) (Nat.lt_of_lt_of_le hbB hB)).trans hc1
      have d0 := (hb.cell (p := ⟨b', off' + k * 2, none⟩) (Nat.lt_of_lt_of_le hbB' hB)).trans hd0
      have d1 := (hb.cell (p := ⟨b', off' + k * 2 + 1, none⟩) (Nat.lt_of_lt_of_le hbB' hB)).trans hd1
      obtain ⟨y, hy⟩ : ∃ y, y = ws[k]'(by omega) := ⟨_, rfl⟩
      rw [← hy] at c0 c1 d0 d1
      obtain ⟨t, s⟩ := y
      simp only at c0 c1 d0 d1
      have hk0 : (0 : Int) ≤ (k : Int) := by omega
      have hkn : (k : Int) < (n : Int) := by omega
      have hb1 : b < wr.heap.size := Nat.lt_of_lt_of_le hbB (Nat.le_trans hB hb.size)
      have hb2 : b' < wr.heap.size := Nat.lt_of_lt_of_le hbB' (Nat.le_trans hB hb.size)
      have HB := Lib.hid hb
      clear hc hc' hc0 hc1 hd0 hd1 hy hb
      go_wp2_with fail
      go_region_held3 (fun w' => w'.cell? ⟨b, off + k * 2, none⟩ = some (.int .i64 t) ∧ w'.cell? ⟨b, off + k * 2 + 1, none⟩ = some (.int .i64 s) ∧ w'.cell? ⟨b', off' + k * 2, none⟩ = some (.int .i64 t) ∧ w'.cell? ⟨b', off' + k * 2 + 1, none⟩ = some (.int .i64 s))
        (first | exact ⟨c0, c1, d0, d1⟩ | (go_split_ands; exact ⟨kept2 hb4 c0 hb1, kept2 hb4 c1 hb1, kept2 hb4 d0 hb2, kept2 hb4 d1 hb2⟩))
        ((go_at_call 102; (with_reducible refine (eqWon_same _ _ _).mono ?_); rintro e w4 ⟨rfl, hb4⟩))
      have HBB := Lib.hid (Below.trans (b := wr.drew) HB.out.drew (hb4.mono HB.out.size))
      clear hb4
      go_wp2
      go_roundw
      case rel => exact ⟨k + 1, by omega, by go_num, HBB.out⟩
      case measure => simp [intOf]; omega
    · go_wp2
      go_ret
      exact ⟨rfl, hb⟩

set_option maxHeartbeats 2000000 in
theorem eqVoter_same (x : Bool × Int × Int × Bool) (A A' : Option Addr) (n c c' : Nat) (is : List Int) (B : Nat) (w : World) (hn : is.length = n) (h : IntsB w B A is) (h' : IntsB w B A' is) (hB : B ≤ w.heap.size) (hl : n ≤ 1048576) :
    Calls Try.prog 100 #[.agg #[.bool x.1, .int .i64 x.2.1, .int .i64 x.2.2.1, .slice A n c, .bool x.2.2.2], .agg #[.bool x.1, .int .i64 x.2.1, .int .i64 x.2.2.1, .slice A' n c', .bool x.2.2.2]] w fun e w' => e = .returned (.bool true) ∧ Below w.heap.size w w' := by
  have HI := Lib.hid (fun W (hW : Below w.heap.size w W) => eqIntS_same A A' n c c' is B W hn (h.below (hW.mono hB)) (h'.below (hW.mono hB)) (Nat.le_trans hB hW.size) hl)
  obtain ⟨x0, x1, x2, x3⟩ := x
  have hb0 := below2 w (.cells #[.bool x0, .int .i64 x1, .int .i64 x2, .slice A n c, .bool x3] 81) (.cells #[.bool x0, .int .i64 x1, .int .i64 x2, .slice A' n c', .bool x3] 81)
  simp only
  clear h h' hB hl hn
  go_enter Try.func100, Try.ntmps100
  go_wp2_with fail
  refine (HI.out _ hb0).mono ?_
  rintro e w1 ⟨rfl, hb1⟩
  have hb2 := hb0.trans (hb1.mono hb0.size)
  obtain ⟨hc, hf⟩ := bcell hb1
  have hz := hb1.size
  simp only [World.size_alloc] at hz hc hf
  have hz0 : w.heap.size < w1.heap.size := by omega
  have hz1 : w.heap.size + 1 < w1.heap.size := by omega
  clear hb0 hb1
  go_wp2
  go_ret
  exact ⟨rfl, hb2⟩

set_option maxRecDepth 100000 in
set_option maxHeartbeats 1000000 in
theorem eqVoterS_same (A A' : Option Addr) (n c c' : Nat) (hs gs : List ((Bool × Int × Int × Bool) × Option Addr × Nat × List Int)) (B : Nat) (w : World) (hn : hs.length = n) (hd : gs.map vdat = hs.map vdat) (h : VotB w B A hs) (h' : VotB w B A' gs) (hB : B ≤ w.heap.size) (hm : VtSmall hs) :
    Calls Try.prog 55 #[.slice A n c, .slice A' n c'] w fun e w' => e = .returned (.bool true) ∧ Below w.heap.size w w' := by
  obtain ⟨hl, hms⟩ := hm
  have hge := Nat.le_of_eq hn
  have hle := Nat.le_of_eq hn.symm
  have hle2 : n ≤ gs.length := by rw [vdats_len hd]; omega
  have hnl : n ≤ 1048576 := by omega
  have HS := Lib.hid h
  have HS' := Lib.hid h'
  have HDD := Lib.hid hd
  have HM := Lib.hid hms
  clear hn h h' hd hms hl
  go_enter Try.func55, Try.ntmps55
  go_wp2
  go_loopw [5] (fun i wr => ∃ k : Nat, k ≤ n ∧ i = .int .i64 k ∧ Below w.heap.size w wr) (fun i _ => n - (intOf i).toNat)
  case atStart => exact ⟨0, by omega, rfl, Below.refl _ _⟩
  case round =>
    obtain ⟨k, hk, rfl, hb⟩ := hrel
    by_cases hlt : k < n
    · obtain ⟨b, off, rfl, hbB, hc⟩ := HS.out.get (by omega)
      obtain ⟨b', off', rfl, hbB', hc'⟩ := HS'.out.get (by omega)
      obtain ⟨hc0, hc1, hc2, hc3, hc4⟩ := hc k (by omega)
      obtain ⟨hd0, hd1, hd2, hd3, hd4⟩ := hc' k (by omega)
      obtain ⟨e1, e2⟩ := vdats_at HDD.out k (by omega) (by omega)
      rw [e1] at hd0 hd1 hd2 hd4
      rw [e2] at hd3
      have c0 := (hb.cell (p := ⟨b, off + k * 5, none⟩) (Nat.lt_of_lt_of_le hbB hB)).trans hc0
      have c1 := (hb.cell (p := ⟨b, off + k * 5 + 1, none⟩) (Nat.lt_of_lt_of_le hbB hB)).trans hc1
      have c2 := (hb.cell (p := ⟨b, off + k * 5 + 2, none⟩) (Nat.lt_of_lt_of_le hbB hB)).trans hc2
      have c3 := (hb.cell (p := ⟨b, off + k * 5 + 3, none⟩) (Nat.lt_of_lt_of_le hbB hB)).trans hc3
      have c4 := (hb.cell (p := ⟨b, off + k * 5 + 4, none⟩) (Nat.lt_of_lt_of_le hbB hB)).trans hc4
      have d0 := (hb.cell (p := ⟨b', off' + k * 5, none⟩) (Nat.lt_of_lt_of_le hbB' hB)).trans hd0
      have d1 := (hb.cell (p := ⟨b', off' + k * 5 + 1, none⟩) (Nat.lt_of_lt_of_le hbB' hB)).trans hd1
      have d2 := (hb.cell (p := ⟨b', off' + k * 5 + 2, none⟩) (Nat.lt_of_lt_of_le hbB' hB)).trans hd2
      have d3 := (hb.cell (p := ⟨b', off' + k * 5 + 3, none⟩) (Nat.lt_of_lt_of_le hbB' hB)).trans hd3
      have d4 := (hb.cell (p := ⟨b', off' + k * 5 + 4, none⟩) (Nat.lt_of_lt_of_le hbB' hB)).trans hd4
      have hv := (HS.out.yes k (by omega)).below (hb.mono hB)
      have hv' := (HS'.out.yes k (by omega)).below (hb.mono hB)
      rw [e2] at hv'
      have hsm := HM.out _ (List.getElem_mem (show k < hs.length by omega))
      obtain ⟨x, hx⟩ : ∃ x, x = hs[k]'(by omega) := ⟨_, rfl⟩
      obtain ⟨y, hy⟩ : ∃ y, y = gs[k]'(by omega) := ⟨_, rfl⟩
      rw [← hx] at c0 c1 c2 c3 c4 d0 d1 d2 d3 d4 hv hv' hsm
      rw [← hy] at d3 hv'
      obtain ⟨⟨x0, x1, x2, x3⟩, ad, cp, vs⟩ := x
      obtain ⟨key', ad', cp', vs'⟩ := y
      simp only at c0 c1 c2 c3 c4 d0 d1 d2 d3 d4 hv hv' hsm
      have hk0 : (0 : Int) ≤ (k : Int) := by omega
      have hkn : (k : Int) < (n : Int) := by omega
      have hb1 : b < wr.heap.size := Nat.lt_of_lt_of_le hbB (Nat.le_trans hB hb.size)
      have hb2 : b' < wr.heap.size := Nat.lt_of_lt_of_le hbB' (Nat.le_trans hB hb.size)
      have HB := Lib.hid hb
      have HCall := Lib.hid (eqVoter_same (x0, x1, x2, x3) ad ad' vs.length cp cp' vs B wr.drew rfl hv hv' (Nat.le_trans hB hb.size) hsm)
      obtain ⟨m, hmv⟩ : ∃ m, m = vs.length := ⟨_, rfl⟩
      rw [← hmv] at c3 d3 HCall
      clear hc hc' hc0 hc1 hc2 hc3 hc4 hd0 hd1 hd2 hd3 hd4 hx hy hb e1 e2 hv hv' hsm hmv
      go_wp2_with fail
      go_region_held3 (fun w' => w'.cell? ⟨b, off + k * 5, none⟩ = some (.bool x0) ∧ w'.cell? ⟨b, off + k * 5 + 1, none⟩ = some (.int .i64 x1) ∧ w'.cell? ⟨b, off + k * 5 + 2, none⟩ = some (.int .i64 x2) ∧ w'.cell? ⟨b, off + k * 5 + 3, none⟩ = some (.slice ad m cp) ∧ w'.cell? ⟨b, off + k * 5 + 4, none⟩ = some (.bool x3) ∧ w'.cell? ⟨b', off' + k * 5, none⟩ = some (.bool x0) ∧ w'.cell? ⟨b', off' + k * 5 + 1, none⟩ = some (.int .i64 x1) ∧ w'.cell? ⟨b', off' + k * 5 + 2, none⟩ = some (.int .i64 x2) ∧ w'.cell? ⟨b', off' + k * 5 + 3, none⟩ = some (.slice ad' m cp') ∧ w'.cell? ⟨b', off' + k * 5 + 4, none⟩ = some (.bool x3))
        (first | exact ⟨c0, c1, c2, c3, c4, d0, d1, d2, d3, d4⟩ | (go_split_ands; exact ⟨kept2 hb4 c0 hb1, kept2 hb4 c1 hb1, kept2 hb4 c2 hb1, kept2 hb4 c3 hb1, kept2 hb4 c4 hb1, kept2 hb4 d0 hb2, kept2 hb4 d1 hb2, kept2 hb4 d2 hb2, kept2 hb4 d3 hb2, kept2 hb4 d4 hb2⟩))
        ((go_at_call 100; (with_reducible refine HCall.out.mono ?_); rintro e w4 ⟨rfl, hb4⟩))
      have HBB := Lib.hid (Below.trans (b := wr.drew) HB.out.drew (hb4.mono HB.out.size))
      clear hb4
      go_wp2
      go_roundw
      case rel => exact ⟨k + 1, by omega, by go_num, HBB.out⟩
      case measure => simp [intOf]; omega
    · go_wp2
      go_ret
      exact ⟨rfl, hb⟩

set_option maxHeartbeats 2000000 in
theorem eqPoll_same (A A1 A2 A3 C C1 C2 C3 : Option Addr) (n c n1 c1 n2 c2 n3 c3 d d1 d2 d3 : Nat) (now far : Int) (hs gs : List ((Bool × Int × Int × Bool) × Option Addr × Nat × List Int)) (is : List Int) (ls : List (Int × Int × Int × ByteArray)) (ws : List (Int × Int)) (B : Nat) (w : World)
    (hn : hs.length = n) (hn1 : is.length = n1) (hn2 : ls.length = n2) (hn3 : ws.length = n3) (hd : gs.map vdat = hs.map vdat)
    (h : VotB w B A hs) (h1 : IntsB w B A1 is) (h2 : LetsB w B A2 ls) (h3 : WonB w B A3 ws) (k : VotB w B C gs) (k1 : IntsB w B C1 is) (k2 : LetsB w B C2 ls) (k3 : WonB w B C3 ws)
    (hB : B ≤ w.heap.size) (hm : VtSmall hs) (hl1 : n1 ≤ 1048576) (hl2 : n2 ≤ 2000000) (hl3 : n3 ≤ 2000000) :
    Calls Try.prog 14 #[.agg #[.slice A n c, .int .i64 now, .slice A1 n1 c1, .int .i64 far, .slice A2 n2 c2, .slice A3 n3 c3], .agg #[.slice C n d, .int .i64 now, .slice C1 n1 d1, .int .i64 far, .slice C2 n2 d2, .slice C3 n3 d3]] w fun e w' => e = .returned (.bool true) ∧ Below w.heap.size w w' := by
  have HV := Lib.hid (fun W (hW : Below w.heap.size w W) => eqVoterS_same A C n c d hs gs B W hn hd (h.below (hW.mono hB)) (k.below (hW.mono hB)) (Nat.le_trans hB hW.size) hm)
  have HN := Lib.hid (fun W (hW : Below w.heap.size w W) => eqNet_same now far A1 A2 C1 C2 n1 c1 n2 c2 d1 d2 is ls B W hn1 hn2 (h1.below (hW.mono hB)) (h2.below (hW.mono hB)) (k1.below (hW.mono hB)) (k2.below (hW.mono hB)) (Nat.le_trans hB hW.size) hl1 hl2)
  have HW := Lib.hid (fun W (hW : Below w.heap.size w W) => eqWonS_same A3 C3 n3 c3 d3 ws B W hn3 (h3.below (hW.mono hB)) (k3.below (hW.mono hB)) (Nat.le_trans hB hW.size) hl3)
  have hb0 := below2 w (.cells #[.slice A n c, .int .i64 now, .slice A1 n1 c1, .int .i64 far, .slice A2 n2 c2, .slice A3 n3 c3] 38) (.cells #[.slice C n d, .int .i64 now, .slice C1 n1 d1, .int .i64 far, .slice C2 n2 d2, .slice C3 n3 d3] 38)
  have hk0 := ((below1 (w.alloc (.cells #[.slice A n c, .int .i64 now, .slice A1 n1 c1, .int .i64 far, .slice A2 n2 c2, .slice A3 n3 c3] 38)) (.cells #[.slice C n d, .int .i64 now, .slice C1 n1 d1, .int .i64 far, .slice C2 n2 d2, .slice C3 n3 d3] 38)).block w.heap.size (by simp)).trans (heap_alloc_new w (.cells #[.slice A n c, .int .i64 now, .slice A1 n1 c1, .int .i64 far, .slice A2 n2 c2, .slice A3 n3 c3] 38))
  have hr0 := alloc_snd w (.cells #[.slice A n c, .int .i64 now, .slice A1 n1 c1, .int .i64 far, .slice A2 n2 c2, .slice A3 n3 c3] 38) (.cells #[.slice C n d, .int .i64 now, .slice C1 n1 d1, .int .i64 far, .slice C2 n2 d2, .slice C3 n3 d3] 38)
  have HB0 := Lib.hid hb0
  have HK0 := Lib.hid hk0
  have HR0 := Lib.hid hr0
  clear h h1 h2 h3 k k1 k2 k3 hn hn1 hn2 hn3 hd hm hl1 hl2 hl3 hb0 hk0 hr0
  go_enter Try.func14, Try.ntmps14
  go_wp2_with fail
  refine (HV.out _ HB0.out).mono ?_
  rintro e w1 ⟨rfl, ha1⟩
  have HB1 := Lib.hid (HB0.out.trans (ha1.mono HB0.out.size))
  have hk1 := (ha1.block w.heap.size (lt_blk HK0.out)).trans HK0.out
  have hr1 := (ha1.block (w.heap.size + 1) (lt_blk HR0.out)).trans HR0.out
  have HK1 := Lib.hid hk1
  have HR1 := Lib.hid hr1
  have y1 := cell_of_row _ _ 1 _ 38 (0, 0) hk1
  have y2 := cell_of_row _ _ 2 _ 38 (0, 0) hk1
  have y3 := cell_of_row _ _ 3 _ 38 (0, 0) hk1
  have y4 := cell_of_row _ _ 4 _ 38 (0, 0) hk1
  have z1 := cell_of_row _ _ 1 _ 38 (0, 0) hr1
  have z2 := cell_of_row _ _ 2 _ 38 (0, 0) hr1
  have z3 := cell_of_row _ _ 3 _ 38 (0, 0) hr1
  have z4 := cell_of_row _ _ 4 _ 38 (0, 0) hr1
  clear ha1 hk1 hr1
  go_wp2_with fail
  refine (HN.out _ HB1.out).mono ?_
  rintro e w2 ⟨rfl, ha2⟩
  have HB2 := Lib.hid (HB1.out.trans (ha2.mono HB1.out.size))
  have hk2 := (ha2.block w.heap.size (lt_blk HK1.out)).trans HK1.out
  have hr2 := (ha2.block (w.heap.size + 1) (lt_blk HR1.out)).trans HR1.out
  have y5 := cell_of_row _ _ 5 _ 38 (0, 0) hk2
  have z5 := cell_of_row _ _ 5 _ 38 (0, 0) hr2
  clear ha2 hk2 hr2 y1 y2 y3 y4 z1 z2 z3 z4
  go_wp2_with fail
  refine (HW.out _ HB2.out).mono ?_
  rintro e w3 ⟨rfl, ha3⟩
  have HB3 := Lib.hid (HB2.out.trans (ha3.mono HB2.out.size))
  clear ha3
  go_wp2
  go_ret
  exact ⟨rfl, HB3.out⟩
end Go.Proofs.Ytojplmjoipjabaa.Po
