/-
  Contracts for winnerOf and LeaderOf of the program.
-/
import Derived.Test.YtojplmjoipjabaaPoGood3
import Derived.Shelf.Abstract
import Derived.Sort.Walk0
import Derived.Deep.LoopGhost
import Derived.Deep.Draws
namespace Go.Proofs.Ytojplmjoipjabaa.Po
open Go.RowKit Nt
set_option linter.unusedVariables false
set_option linter.unusedSimpArgs false

theorem won1_any (x1 x2 t : Int) (g : Nat) (W : World) (hg : W.cell? ⟨g, 0, none⟩ = some (.int .i64 t)) (hl : g < W.heap.size) :
    Calls Try.prog 109 (#[.agg #[.int .i64 x1, .int .i64 x2]] ++ #[.pointer (some ⟨g, 0, none⟩)]) W fun e w' => e = .returned (.bool (decide (x1 = t))) ∧ Below W.heap.size W w' := by
  have hb0 := below1 W (.cells #[.int .i64 x1, .int .i64 x2] 89)
  have hc := (hb0.cell (p := ⟨g, 0, none⟩) hl).trans hg
  clear hg
  by_cases h : x1 = t
  · rw [decide_eq_true h]
    subst h
    go_enter Try.func109, Try.ntmps109
    go_wp2
    go_ret
    exact ⟨by simp, hb0⟩
  · rw [decide_eq_false h]
    have hb : (x1 == t) = false := beq_eq_false_iff_ne.2 h
    go_enter Try.func109, Try.ntmps109
    go_wp2
    go_ret
    exact ⟨by simp [hb], hb0⟩

/-- Where the first stands that won a term, or -1. -/
def WonAt (ws : List (Int × Int)) (t r : Int) : Prop := (∃ k : Nat, r = (k : Int) ∧ ∃ h : k < ws.length, winF t ws = (ws[k].2, true)) ∨ (r = -1 ∧ winF t ws = (0, false))
set_option maxRecDepth 100000 in
set_option maxHeartbeats 2000000 in
theorem indexWon_any (A : Option Addr) (n c g : Nat) (ws : List (Int × Int)) (t : Int) (B : Nat) (w : World) (hn : ws.length = n) (h : WonB w B A ws) (hB : B ≤ w.heap.size) (hl : n ≤ 1048576) (hg : w.cell? ⟨g, 0, none⟩ = some (.int .i64 t)) (hgl : g < w.heap.size) :
    Calls Try.prog 108 #[.slice A n c, .func (.func 109) #[] #[.pointer (some ⟨g, 0, none⟩)]] w fun e w' => ∃ r : Int, e = .returned (.int .i64 r) ∧ WonAt ws t r ∧ Below w.heap.size w w' := by
  have eg : ∀ args w, (callFunc 109 args).run Try.prog w = .ok (.enter 109 args) w := enters_of Try.func109 (by kernel_rfl) rfl
  have HN := Lib.hid hn
  have hge := Nat.le_of_eq hn
  have hle := Nat.le_of_eq hn.symm
  have HS := Lib.hid h
  have HG := Lib.hid hg
  clear hn h hg
  go_enter Try.func108, Try.ntmps108
  go_wp2
  go_loopw [8] (fun i wr => ∃ k : Nat, k ≤ n ∧ i = .int .i64 k ∧ Hid (winF t ws = winF t (ws.drop k)) ∧ Below w.heap.size w wr) (fun i _ => n - (intOf i).toNat)
  case atStart => exact ⟨0, by omega, rfl, Lib.hid rfl, Below.refl _ _⟩
  case round =>
    obtain ⟨k, hk, rfl, HP, hb⟩ := hrel
    by_cases hlt : k < n
    · obtain ⟨b, off, rfl, hbB, hc⟩ := HS.out.get (by omega)
      obtain ⟨hc0, hc1⟩ := hc k (by omega)
      have p0 := (hb.cell (p := ⟨b, off + k * 2, none⟩) (Nat.lt_of_lt_of_le hbB hB)).trans hc0
      have p1 := (hb.cell (p := ⟨b, off + k * 2 + 1, none⟩) (Nat.lt_of_lt_of_le hbB hB)).trans hc1
      have HPS := Lib.hid (HP.out.trans (winF_step (t := t) (show k < ws.length by omega)))
      have HAT := Lib.hid (fun (e : winF t ws = ((ws[k]'(by omega)).2, true)) => (show WonAt ws t (k : Int) from .inl ⟨k, rfl, by omega, e⟩))
      obtain ⟨y, hy⟩ : ∃ y, y = ws[k]'(by omega) := ⟨_, rfl⟩
      rw [← hy] at p0 p1 HPS HAT
      obtain ⟨x1, x2⟩ := y
      simp only at p0 p1 HPS HAT
      have hc := won1_any x1 x2 t g wr ((hb.cell (p := ⟨g, 0, none⟩) hgl).trans HG.out) (Nat.lt_of_lt_of_le hgl hb.size)
      have HB := Lib.hid hb
      clear hc0 hc1 hy hb HP
      by_cases he : x1 = t
      · rw [if_pos he] at HPS
        rw [decide_eq_true he] at hc
        have HF := Lib.hid (HAT.out HPS.out)
        clear he HPS
        go_wp2_with (go_at_fn 109; refine hc.mono ?_; rintro e w4 ⟨rfl, hb4⟩)
        have HB4 := Lib.hid (HB.out.trans (hb4.mono HB.out.size))
        clear hb4
        go_ret
        exact ⟨_, rfl, HF.out, HB4.out⟩
      · rw [if_neg he] at HPS
        rw [decide_eq_false he] at hc
        clear he
        go_wp2_with (go_at_fn 109; refine hc.mono ?_; rintro e w4 ⟨rfl, hb4⟩)
        have HB4 := Lib.hid (HB.out.trans (hb4.mono HB.out.size))
        clear hb4
        go_roundw
        case rel => exact ⟨k + 1, by omega, by go_num, HPS, HB4.out⟩
        case measure => simp [intOf]; omega
    · have HF := Lib.hid (show WonAt ws t (-1) from .inr ⟨rfl, by rw [HP.out, winF_end (by omega)]⟩)
      have HB := Lib.hid hb
      clear hb HP
      go_wp2
      go_ret
      exact ⟨_, rfl, HF.out, HB.out⟩

set_option maxRecDepth 100000 in
set_option maxHeartbeats 2000000 in
theorem winnerOf_any (A : Option Addr) (n c : Nat) (ws : List (Int × Int)) (t : Int) (B : Nat) (w : World) (hn : ws.length = n) (h : WonB w B A ws) (hB : B ≤ w.heap.size) (hl : n ≤ 1048576) :
    Calls Try.prog 69 #[.slice A n c, .int .i64 t] w fun e w' => e = .returned (.tuple #[.int .i64 (winF t ws).1, .bool (winF t ws).2]) ∧ Below w.heap.size w w' := by
  have hb0 := below1 w (.cells #[.int .i64 t] 3)
  have hg := cell_of_row _ _ 0 _ 3 (0, 0) (heap_alloc_new w (.cells #[.int .i64 t] 3))
  have HC := Lib.hid (indexWon_any A n c w.heap.size ws t B _ hn (h.below (hb0.mono hB)) (Nat.le_trans hB hb0.size) hl hg (by simp))
  have HS := Lib.hid h
  have HN := Lib.hid hn
  have hge := Nat.le_of_eq hn
  obtain ⟨a, ha⟩ : ∃ a, a = winF t ws := ⟨_, rfl⟩
  have HA := Lib.hid ha
  rw [← ha]
  clear h hn hg ha
  go_enter Try.func69, Try.ntmps69
  go_wp2_with fail
  refine HC.out.mono ?_
  rintro e w4 ⟨r, rfl, hr, hb4⟩
  have HB4 := Lib.hid (hb0.trans (hb4.mono hb0.size))
  clear hb4 hb0
  rcases hr with ⟨k, rfl, hk, hw⟩ | ⟨rfl, hw⟩
  · obtain ⟨b, off, rfl, hbB, hc⟩ := HS.out.get (by omega)
    have p1 := (HB4.out.cell (p := ⟨b, off + k * 2 + 1, none⟩) (Nat.lt_of_lt_of_le hbB hB)).trans (hc k hk).2
    have HX := Lib.hid (show a = ((ws[k]'hk).2, true) by rw [HA.out, hw])
    obtain ⟨y, hy⟩ : ∃ y, y = (ws[k]'hk).2 := ⟨_, rfl⟩
    rw [← hy] at p1 HX
    have hk0 : (0 : Int) ≤ (k : Int) := by omega
    have hkn : (k : Int) < (n : Int) := by have := HN.out; omega
    have hx := HX.out
    subst hx
    clear hc hy hw HA
    go_wp2
    exact bodyPost_ret (v := .tuple #[.int .i64 y, .bool true]) (by simp [results, Try.results69, go_sem]) rfl ⟨rfl, HB4.out⟩
  · have hx : a = (0, false) := by rw [HA.out, hw]
    subst hx
    clear hw HA
    go_wp2
    exact bodyPost_ret (v := .tuple #[.int .i64 0, .bool false]) (by simp [results, Try.results69, go_sem]) rfl ⟨rfl, HB4.out⟩

set_option maxRecDepth 100000 in
set_option maxHeartbeats 2000000 in
theorem implLeaderOf_any (A A1 A2 A3 : Option Addr) (n c n1 c1 n2 c2 n3 c3 : Nat) (now far : Int) (hs : List ((Bool × Int × Int × Bool) × Option Addr × Nat × List Int)) (is : List Int) (ls : List (Int × Int × Int × ByteArray)) (ws : List (Int × Int)) (t : Int) (B : Nat) (w : World)
    (h : PollB w B A n hs A1 n1 is A2 n2 ls A3 n3 ws) (hB : B ≤ w.heap.size) (hs' : PollS hs is ls ws) :
    Calls Try.prog 25 #[.agg #[.slice A n c, .int .i64 now, .slice A1 n1 c1, .int .i64 far, .slice A2 n2 c2, .slice A3 n3 c3], .int .i64 t] w fun e w' => e = .returned (.tuple #[.int .i64 (leadA (hs.map vdat) now is far ls ws t).1, .bool (leadA (hs.map vdat) now is far ls ws t).2]) ∧ Below w.heap.size w w' := by
  have hb0 := below1 w (.cells #[.slice A n c, .int .i64 now, .slice A1 n1 c1, .int .i64 far, .slice A2 n2 c2, .slice A3 n3 c3] 38)
  have hk0 := heap_alloc_new w (.cells #[.slice A n c, .int .i64 now, .slice A1 n1 c1, .int .i64 far, .slice A2 n2 c2, .slice A3 n3 c3] 38)
  have HG := Lib.hid (implGoodPoll_any A A1 A2 A3 n c n1 c1 n2 c2 n3 c3 now far hs is ls ws B _ (h.below (hb0.mono hB)) (Nat.le_trans hB hb0.size) hs')
  have HW := Lib.hid (fun W (hW : Below w.heap.size w W) => winnerOf_any A3 n3 c3 ws t B W h.2.2.2.1 (h.2.2.2.2.2.2.2.below (hW.mono hB)) (Nat.le_trans hB hW.size) (by rw [← h.2.2.2.1]; exact hs'.2.2.2))
  obtain ⟨p, hp⟩ : ∃ p, p = pollB (hs.map vdat) now is far ls ws := ⟨_, rfl⟩
  obtain ⟨a, ha⟩ : ∃ a, a = leadA (hs.map vdat) now is far ls ws t := ⟨_, rfl⟩
  rw [← ha]
  unfold leadA at ha
  rw [← hp] at ha HG
  have HA := Lib.hid ha
  have HB0 := Lib.hid hb0
  have HK0 := Lib.hid hk0
  clear h hs' hp ha hb0 hk0
  go_enter Try.func25, Try.ntmps25
  go_wp2_with fail
  refine HG.out.mono ?_
  rintro e w1 ⟨rfl, ha1⟩
  have HB1 := Lib.hid (HB0.out.trans (ha1.mono HB0.out.size))
  have hk1 := (ha1.block w.heap.size (lt_blk HK0.out)).trans HK0.out
  have k5 := cell_of_row _ _ 5 _ 38 (0, 0) hk1
  clear ha1 hk1 HG
  cases p with
  | false =>
    have hx : a = (0, false) := HA.out
    subst hx
    go_wp2
    exact bodyPost_ret (v := .tuple #[.int .i64 0, .bool false]) (by simp [results, Try.results25, go_sem]) rfl ⟨rfl, HB1.out⟩
  | true =>
    have hx : a = winF t ws := HA.out
    rw [← hx] at HW
    obtain ⟨a1, a2⟩ := a
    clear hx HA
    go_wp2_with fail
    refine (HW.out _ HB1.out).mono ?_
    rintro e w2 ⟨rfl, ha2⟩
    have HB2 := Lib.hid (HB1.out.trans (ha2.mono HB1.out.size))
    clear ha2
    go_wp2
    exact bodyPost_ret (v := .tuple #[.int .i64 a1, .bool a2]) (by simp [results, Try.results25, go_sem]) rfl ⟨rfl, HB2.out⟩

end Go.Proofs.Ytojplmjoipjabaa.Po
