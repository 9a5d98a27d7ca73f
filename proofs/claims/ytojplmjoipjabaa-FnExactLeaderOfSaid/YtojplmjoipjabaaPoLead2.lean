/-
  The contract for LeaderOf of the model.
-/
import Derived.Test.YtojplmjoipjabaaPoGood5
namespace Go.Proofs.Ytojplmjoipjabaa.Po
open Go.RowKit Nt
set_option linter.unusedVariables false
set_option linter.unusedSimpArgs false

set_option maxRecDepth 100000 in
set_option maxHeartbeats 4000000 in
theorem specLeaderOf_any (A A1 A2 A3 : Option Addr) (n c n1 c1 n2 c2 n3 c3 : Nat) (now far : Int) (hs : List ((Bool × Int × Int × Bool) × Option Addr × Nat × List Int)) (is : List Int) (ls : List (Int × Int × Int × ByteArray)) (ws : List (Int × Int)) (t : Int) (B : Nat) (w : World)
    (h : PollB w B A n hs A1 n1 is A2 n2 ls A3 n3 ws) (hB : B ≤ w.heap.size) (hs' : PollS hs is ls ws) :
    Calls Try.prog 24 #[.agg #[.slice A n c, .int .i64 now, .slice A1 n1 c1, .int .i64 far, .slice A2 n2 c2, .slice A3 n3 c3], .int .i64 t] w fun e w' => e = .returned (.tuple #[.int .i64 (leadA (hs.map vdat) now is far ls ws t).1, .bool (leadA (hs.map vdat) now is far ls ws t).2]) ∧ Below w.heap.size w w' := by
  have hb0 := below1 w (.cells #[.slice A n c, .int .i64 now, .slice A1 n1 c1, .int .i64 far, .slice A2 n2 c2, .slice A3 n3 c3] 38)
  have hk0 := heap_alloc_new w (.cells #[.slice A n c, .int .i64 now, .slice A1 n1 c1, .int .i64 far, .slice A2 n2 c2, .slice A3 n3 c3] 38)
  have HG := Lib.hid (fun W (hW : Below w.heap.size w W) => l8Good_any A A1 A2 A3 n c n1 c1 n2 c2 n3 c3 now far hs is ls ws B W (h.below (hW.mono hB)) (Nat.le_trans hB hW.size) hs')
  have HW := Lib.hid h.2.2.2.2.2.2.2
  have HN3 := Lib.hid h.2.2.2.1
  have hn3b : n3 ≤ 1048576 := by rw [← h.2.2.2.1]; exact hs'.2.2.2
  obtain ⟨p, hp⟩ : ∃ p, p = pollB (hs.map vdat) now is far ls ws := ⟨_, rfl⟩
  obtain ⟨a, ha⟩ : ∃ a, a = leadA (hs.map vdat) now is far ls ws t := ⟨_, rfl⟩
  rw [← ha]
  unfold leadA at ha
  rw [← hp] at ha HG
  have HA := Lib.hid ha
  have HB0 := Lib.hid hb0
  have HK0 := Lib.hid hk0
  have hgl := lt_blk hk0
  clear h hs' hp ha hb0 hk0
  go_enter Try.func24, Try.ntmps24
  go_wp2_with fail
  obtain ⟨W0, hW0⟩ : ∃ W0, W0 = w.alloc (.cells #[.slice A n c, .int .i64 now, .slice A1 n1 c1, .int .i64 far, .slice A2 n2 c2, .slice A3 n3 c3] 38) := ⟨_, rfl⟩
  rw [← hW0] at HB0 HK0 hgl ⊢
  clear hW0
  go_loopw [6] (fun i wr => ∃ k : Nat, k ≤ n3 ∧ i = .int .i64 k ∧ Hid (p = true → winF t ws = winF t (ws.drop k)) ∧ Hid (p = false → k = 0) ∧ Below W0.heap.size W0 wr) (fun i _ => n3 - (intOf i).toNat)
  case atStart => exact ⟨0, by omega, rfl, Lib.hid (fun _ => rfl), Lib.hid (fun _ => rfl), Below.refl _ _⟩
  case round =>
    obtain ⟨k, hk, rfl, HP, HQ, hb⟩ := hrel
    have hkr := (hb.block w.heap.size hgl).trans HK0.out
    have k0 := cell_of_row _ _ 0 _ 38 (0, 0) hkr
    have k1 := cell_of_row _ _ 1 _ 38 (0, 0) hkr
    have k2 := cell_of_row _ _ 2 _ 38 (0, 0) hkr
    have k3 := cell_of_row _ _ 3 _ 38 (0, 0) hkr
    have k4 := cell_of_row _ _ 4 _ 38 (0, 0) hkr
    have k5 := cell_of_row _ _ 5 _ 38 (0, 0) hkr
    have HB := Lib.hid hb
    have HKR := Lib.hid hkr
    clear hb hkr
    by_cases hlt : k < n3
    · have hk0 : (0 : Int) ≤ (k : Int) := by omega
      have hkn : (k : Int) < (n3 : Int) := by omega
      have HBW := Lib.hid (HB0.out.trans (HB.out.mono HB0.out.size))
      go_wp2_with fail
      refine (HG.out _ HBW.out).mono ?_
      rintro e w1 ⟨rfl, ha1⟩
      have HB1 := Lib.hid (HB.out.trans (ha1.mono HB.out.size))
      have HBW1 := Lib.hid (HBW.out.trans (ha1.mono HBW.out.size))
      have hk1 := (ha1.block w.heap.size (lt_blk HKR.out)).trans HKR.out
      have q5 := cell_of_row _ _ 5 _ 38 (0, 0) hk1
      clear ha1 hk1 k0 k1 k2 k3 k4 k5
      cases p with
      | false =>
        have hx : a = (0, false) := HA.out
        subst hx
        go_wp2
        exact bodyPost_ret (v := .tuple #[.int .i64 0, .bool false]) (by simp [results, Try.results24, go_sem]) rfl ⟨rfl, HBW1.out⟩
      | true =>
        have hl3 : k < ws.length := by rw [HN3.out]; exact hlt
        obtain ⟨b, off, rfl, hbB, hc⟩ := HW.out.get (by omega)
        obtain ⟨hc0, hc1⟩ := hc k hl3
        have p0 := (HBW1.out.cell (p := ⟨b, off + k * 2, none⟩) (Nat.lt_of_lt_of_le hbB hB)).trans hc0
        have p1 := (HBW1.out.cell (p := ⟨b, off + k * 2 + 1, none⟩) (Nat.lt_of_lt_of_le hbB hB)).trans hc1
        have HPS := Lib.hid ((HP.out rfl).trans (winF_step (t := t) hl3))
        obtain ⟨y, hy⟩ : ∃ y, y = ws[k]'hl3 := ⟨_, rfl⟩
        rw [← hy] at p0 p1 HPS
        obtain ⟨x1, x2⟩ := y
        simp only at p0 p1 HPS
        have hx : a = winF t ws := HA.out
        clear hc hc0 hc1 hy HP
        by_cases he : x1 = t
        · rw [if_pos he] at HPS
          have hx2 := hx.trans HPS.out
          subst hx2
          subst he
          clear hx HPS HA
          go_wp2
          exact bodyPost_ret (v := .tuple #[.int .i64 x2, .bool true]) (by simp [results, Try.results24, go_sem]) rfl ⟨rfl, HBW1.out⟩
        · rw [if_neg he] at HPS
          have hbq : (x1 == t) = false := beq_eq_false_iff_ne.2 he
          clear hx
          go_wp2
          go_roundw
          case rel => exact ⟨k + 1, by omega, by go_num, Lib.hid (fun _ => HPS.out), Lib.hid (fun h => by cases h), HB1.out⟩
          case measure => simp [intOf]; omega
    · have HX := Lib.hid (show a = (0, false) by
        rw [HA.out]
        cases p with
        | false => rfl
        | true => rw [if_pos rfl, HP.out rfl, winF_end (by rw [HN3.out]; omega)])
      have hx := HX.out
      subst hx
      have HBW := Lib.hid (HB0.out.trans (HB.out.mono HB0.out.size))
      clear HA HP HQ HX
      go_wp2
      exact bodyPost_ret (v := .tuple #[.int .i64 0, .bool false]) (by simp [results, Try.results24, go_sem]) rfl ⟨rfl, HBW.out⟩
end Go.Proofs.Ytojplmjoipjabaa.Po
