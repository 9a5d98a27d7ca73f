/-
  Contracts for IsFair of the program and of the model.
-/
import Derived.Test.YtojplmjoipjabaaPoLead
import Derived.BigQuiet
import Derived.Deep.QuietTactic
namespace Go.Proofs.Ytojplmjoipjabaa.Po
open Go.RowKit Nt
set_option linter.unusedVariables false
set_option linter.unusedSimpArgs false

theorem fairB_step {ws : List (Int × Int)} {k : Nat} (hk : k < ws.length) : ((ws.drop k).all fun x => decide ((winF x.1 ws).1 = x.2)) = (decide ((winF ws[k].1 ws).1 = ws[k].2) && ((ws.drop (k + 1)).all fun x => decide ((winF x.1 ws).1 = x.2))) := by
  rw [List.drop_eq_getElem_cons hk, List.all_cons]
theorem fairB_end {ws : List (Int × Int)} {k : Nat} (hk : ws.length ≤ k) : ((ws.drop k).all fun x => decide ((winF x.1 ws).1 = x.2)) = true := by
  rw [List.drop_of_length_le hk]; rfl

set_option maxRecDepth 100000 in
set_option maxHeartbeats 4000000 in
theorem implIsFair_any (A A1 A2 A3 : Option Addr) (n c n1 c1 n2 c2 n3 c3 : Nat) (now far : Int) (hs : List ((Bool × Int × Int × Bool) × Option Addr × Nat × List Int)) (is : List Int) (ls : List (Int × Int × Int × ByteArray)) (ws : List (Int × Int)) (B : Nat) (w : World)
    (h : PollB w B A n hs A1 n1 is A2 n2 ls A3 n3 ws) (hB : B ≤ w.heap.size) (hs' : PollS hs is ls ws) :
    Calls Try.prog 27 #[.agg #[.slice A n c, .int .i64 now, .slice A1 n1 c1, .int .i64 far, .slice A2 n2 c2, .slice A3 n3 c3]] w fun e w' => e = .returned (.bool (isFairA (hs.map vdat) now is far ls ws)) ∧ Below w.heap.size w w' := by
  have hb0 := below1 w (.cells #[.slice A n c, .int .i64 now, .slice A1 n1 c1, .int .i64 far, .slice A2 n2 c2, .slice A3 n3 c3] 38)
  have hk0 := heap_alloc_new w (.cells #[.slice A n c, .int .i64 now, .slice A1 n1 c1, .int .i64 far, .slice A2 n2 c2, .slice A3 n3 c3] 38)
  have HG := Lib.hid (implGoodPoll_any A A1 A2 A3 n c n1 c1 n2 c2 n3 c3 now far hs is ls ws B _ (h.below (hb0.mono hB)) (Nat.le_trans hB hb0.size) hs')
  have hn3b : n3 ≤ 1048576 := by rw [← h.2.2.2.1]; exact hs'.2.2.2
  have HW := Lib.hid (fun (t : Int) W (hW : Below w.heap.size w W) => winnerOf_any A3 n3 c3 ws t B W h.2.2.2.1 (h.2.2.2.2.2.2.2.below (hW.mono hB)) (Nat.le_trans hB hW.size) hn3b)
  have HS := Lib.hid h.2.2.2.2.2.2.2
  have HN3 := Lib.hid h.2.2.2.1
  obtain ⟨p, hp⟩ : ∃ p, p = pollB (hs.map vdat) now is far ls ws := ⟨_, rfl⟩
  obtain ⟨res, hres⟩ : ∃ a, a = isFairA (hs.map vdat) now is far ls ws := ⟨_, rfl⟩
  rw [← hres]
  unfold isFairA at hres
  rw [← hp] at hres HG
  have HRES := Lib.hid hres
  have HB0 := Lib.hid hb0
  have HK0 := Lib.hid hk0
  clear h hs' hp hres hb0 hk0
  go_enter Try.func27, Try.ntmps27
  go_wp2_with fail
  refine HG.out.mono ?_
  rintro e w1 ⟨rfl, ha1⟩
  have HB1 := Lib.hid (HB0.out.trans (ha1.mono HB0.out.size))
  have hk1 := (ha1.block w.heap.size (lt_blk HK0.out)).trans HK0.out
  have k5 := cell_of_row _ _ 5 _ 38 (0, 0) hk1
  have hgl := lt_blk hk1
  have HK1 := Lib.hid hk1
  have hB1 : B ≤ w1.heap.size := Nat.le_trans hB HB1.out.size
  clear ha1 hk1 HG
  cases p with
  | false =>
    have HX := Lib.hid (ret_bool (show false = res by rw [HRES.out]; rfl))
    go_wp2
    go_ret
    exact ⟨HX.out, HB1.out⟩
  | true =>
    have HR0 := Lib.hid (show res = ((ws.drop 0).all fun x => decide ((winF x.1 ws).1 = x.2)) from HRES.out)
    clear HRES
    go_wp2_with fail
    go_loopw [13] (fun i wr => ∃ k : Nat, k ≤ n3 ∧ i = .int .i64 k ∧ Hid (res = ((ws.drop k).all fun x => decide ((winF x.1 ws).1 = x.2))) ∧ Below w1.heap.size w1 wr) (fun i _ => n3 - (intOf i).toNat)
    case atStart => exact ⟨0, by omega, rfl, HR0, Below.refl _ _⟩
    case round =>
      clear HR0
      obtain ⟨k, hk, rfl, HR, hb⟩ := hrel
      by_cases hlt : k < n3
      · have hl3 : k < ws.length := by rw [HN3.out]; exact hlt
        obtain ⟨b, off, rfl, hbB, hc⟩ := HS.out.get (by omega)
        obtain ⟨hc0, hc1⟩ := hc k hl3
        have HBW := Lib.hid (HB1.out.trans (hb.mono HB1.out.size))
        have p0 := (HBW.out.cell (p := ⟨b, off + k * 2, none⟩) (Nat.lt_of_lt_of_le hbB hB)).trans hc0
        have p1 := (HBW.out.cell (p := ⟨b, off + k * 2 + 1, none⟩) (Nat.lt_of_lt_of_le hbB hB)).trans hc1
        have HRS := Lib.hid (HR.out.trans (fairB_step hl3))
        obtain ⟨y, hy⟩ : ∃ y, y = ws[k]'hl3 := ⟨_, rfl⟩
        rw [← hy] at p0 p1 HRS
        obtain ⟨x1, x2⟩ := y
        simp only at p0 p1 HRS
        have hbx := below1 wr (.cells #[.int .i64 x1, .int .i64 x2] 89)
        have hkx := heap_alloc_new wr (.cells #[.int .i64 x1, .int .i64 x2] 89)
        have hkr := (hbx.block w.heap.size (Nat.lt_of_lt_of_le hgl hb.size)).trans ((hb.block w.heap.size hgl).trans HK1.out)
        have r5 := cell_of_row _ _ 5 _ 38 (0, 0) hkr
        have HC := Lib.hid (HW.out x1 _ (HBW.out.trans (hbx.mono HBW.out.size)))
        obtain ⟨a, ha⟩ : ∃ a, a = winF x1 ws := ⟨_, rfl⟩
        rw [← ha] at HC HRS
        obtain ⟨a1, a2⟩ := a
        simp only at HC HRS
        have HB := Lib.hid hb
        have HBX := Lib.hid hbx
        have HKX := Lib.hid hkx
        have hk0 : (0 : Int) ≤ (k : Int) := by omega
        have hkn : (k : Int) < (n3 : Int) := by omega
        clear hc hc0 hc1 hy ha hb hbx hkx hkr HR
        go_wp2_with fail
        refine HC.out.mono ?_
        rintro e w4 ⟨rfl, ha4⟩
        have hk4 := (ha4.block wr.heap.size (lt_blk HKX.out)).trans HKX.out
        have y1 := cell_of_row _ _ 1 _ 89 (0, 0) hk4
        have HB4 := Lib.hid (HB.out.trans ((HBX.out.trans (ha4.mono HBX.out.size)).mono HB.out.size))
        clear ha4 hk4 r5 p0 p1
        by_cases he : a1 = x2
        · rw [decide_eq_true he, Bool.true_and] at HRS
          subst he
          go_wp2
          go_roundw
          case rel => exact ⟨k + 1, by omega, by go_num, HRS, HB4.out⟩
          case measure => simp [intOf]; omega
        · have HX := Lib.hid (ret_bool (show false = res by rw [HRS.out, decide_eq_false he]; rfl))
          have hbq : (a1 != x2) = true := by simp [he]
          have HBF := Lib.hid (HB1.out.trans (HB4.out.mono HB1.out.size))
          go_wp2
          go_ret
          exact ⟨HX.out, HBF.out⟩
      · have HX := Lib.hid (ret_bool (show true = res by rw [HR.out, fairB_end (by rw [HN3.out]; omega)]))
        have HBF := Lib.hid (HB1.out.trans (hb.mono HB1.out.size))
        clear hb HR
        go_wp2
        go_ret
        exact ⟨HX.out, HBF.out⟩
end Go.Proofs.Ytojplmjoipjabaa.Po
