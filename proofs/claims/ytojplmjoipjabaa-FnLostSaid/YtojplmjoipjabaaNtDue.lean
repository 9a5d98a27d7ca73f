/-
  Contracts for the search by time: the closure in dueBy, sort.Search over it, dueBy.
-/
import Derived.Test.YtojplmjoipjabaaNtIn
import Derived.Test.YtojplmjoipjabaaNtIns
import Derived.Shelf.Abstract
import Derived.Sort.Walk0
import Derived.Deep.LoopGhost
import Derived.Deep.Draws
namespace Go.Proofs.Ytojplmjoipjabaa.Nt
open Go.RowKit
set_option linter.unusedVariables false
set_option linter.unusedSimpArgs false

set_option maxHeartbeats 1000000 in
theorem dueBy1_any (bq bt b off n c i : Nat) (d time : Int) (W : World) (hi : i < n) (hq : W.cell? ⟨bq, 0, none⟩ = some (.slice (some ⟨b, off, none⟩) n c)) (ht : W.cell? ⟨bt, 0, none⟩ = some (.int .i64 time)) (hc : W.cell? ⟨b, off + i * 4 + 2, none⟩ = some (.int .i64 d)) :
    Calls Try.prog 116 (#[.int .i64 (i : Int)] ++ #[.pointer (some ⟨bq, 0, none⟩), .pointer (some ⟨bt, 0, none⟩)]) W fun e w' => e = .returned (.bool (decide (time < d))) ∧ ∃ q, w' = W.drewN q := by
  have hiz : (i : Int) < (n : Int) := by omega
  have hi0 : (0 : Int) ≤ (i : Int) := by omega
  go_enter Try.func116, Try.ntmps116
  go_wp2_with fail
  go_quiet (fail)
  go_wp2
  go_ret
  exact ⟨rfl, _, rfl⟩

set_option maxRecDepth 100000 in
set_option maxHeartbeats 2000000 in
theorem search_any (A : Option Addr) (bq bt n c : Nat) (ls : List (Int × Int × Int × ByteArray)) (time : Int) (B : Nat) (w : World) (hn : ls.length = n) (h : LetsB w B A ls) (hasc : Asc ls) (hl : n ≤ 1048576) (hq : w.cell? ⟨bq, 0, none⟩ = some (.slice A n c)) (ht : w.cell? ⟨bt, 0, none⟩ = some (.int .i64 time)) :
    Calls Try.prog 115 #[.int .i64 (n : Int), .func (.func 116) #[] #[.pointer (some ⟨bq, 0, none⟩), .pointer (some ⟨bt, 0, none⟩)]] w fun e w' => e = .returned (.int .i64 ((dueK ls time : Nat) : Int)) ∧ ∃ q, w' = w.drewN q := by
  have eg : ∀ args w, (callFunc 116 args).run Try.prog w = .ok (.enter 116 args) w := enters_of Try.func116 (by kernel_rfl) rfl
  have HC := Lib.hid (show ∀ (q k : Nat) (hk : k < ls.length), Calls Try.prog 116 (#[.int .i64 (k : Int)] ++ #[.pointer (some ⟨bq, 0, none⟩), .pointer (some ⟨bt, 0, none⟩)]) (w.drewN q) fun e w' => e = .returned (.bool (decide (time < ls[k].2.2.1))) ∧ ∃ q', w' = (w.drewN q).drewN q' from fun q k hk => by
    obtain ⟨b, off, rfl, _, hcl⟩ := h.get (by omega)
    obtain ⟨_, _, h2, _⟩ := hcl k hk
    exact dueBy1_any bq bt b off n c k _ time (w.drewN q) (by omega) hq ht h2)
  have HN := Lib.hid hn
  have HA := Lib.hid hasc
  clear h hasc hq ht hn
  go_enter Try.func115, Try.ntmps115
  go_wp2
  go_loopw [5, 6] (fun i j wr => ∃ lo hi q : Nat, lo ≤ hi ∧ hi ≤ n ∧ i = .int .i64 lo ∧ j = .int .i64 hi ∧ wr = w.drewN q ∧ Hid (∀ t (h : t < ls.length), t < lo → ls[t].2.2.1 ≤ time) ∧ Hid (∀ t (h : t < ls.length), hi ≤ t → time < ls[t].2.2.1)) (fun i j _ => (intOf j).toNat - (intOf i).toNat)
  case atStart => exact ⟨0, n, 0, by omega, by omega, rfl, rfl, rfl, fun t h h0 => absurd h0 (Nat.not_lt_zero t), fun t h h0 => by have := HN.out; omega⟩
  case round =>
    obtain ⟨lo, hi, q, hlh, hin, rfl, rfl, rfl, HL, HH⟩ := hrel
    by_cases hlt : lo < hi
    · have hmn : (lo + hi) / 2 < ls.length := by have := HN.out; omega
      have hc := HC.out q ((lo + hi) / 2) hmn
      rw [show (((lo + hi) / 2 : Nat) : Int) = ((lo : Int) + (hi : Int)) / 2 by omega] at hc
      by_cases hd : time < (ls[(lo + hi) / 2]).2.2.1
      · have HH2 := Lib.hid (show ∀ t (h : t < ls.length), (lo + hi) / 2 ≤ t → time < ls[t].2.2.1 from fun t h ht => by
          rcases Nat.lt_or_ge ((lo + hi) / 2) t with h1 | h1
          · have := asc_at HA.out _ _ h1 h; omega
          · have e : (lo + hi) / 2 = t := by omega
            simp only [e] at hd
            exact hd)
        rw [decide_eq_true hd] at hc
        clear hd hmn
        go_wp2_with (go_at_fn 116; refine hc.mono ?_; rintro e w' ⟨rfl, nq, rfl⟩)
        go_roundw
        case rel => exact ⟨lo, (lo + hi) / 2, q + nq, by omega, by omega, rfl, by rw [show ((lo : Int) + (hi : Int)) / 2 = (((lo + hi) / 2 : Nat) : Int) by omega], by first | rfl | rw [World.drewN_drewN], HL, HH2⟩
        case measure => simp [intOf]; omega
      · have HL2 := Lib.hid (show ∀ t (h : t < ls.length), t < (lo + hi) / 2 + 1 → ls[t].2.2.1 ≤ time from fun t h ht => by
          rcases Nat.lt_or_ge t ((lo + hi) / 2) with h1 | h1
          · have := asc_at HA.out _ _ h1 hmn; omega
          · have e : t = (lo + hi) / 2 := by omega
            subst e
            omega)
        rw [decide_eq_false hd] at hc
        clear hd hmn
        go_wp2_with (go_at_fn 116; refine hc.mono ?_; rintro e w' ⟨rfl, nq, rfl⟩)
        go_roundw
        case rel => exact ⟨(lo + hi) / 2 + 1, hi, q + nq, by omega, by omega, by rw [show ((lo : Int) + (hi : Int)) / 2 + 1 = (((lo + hi) / 2 + 1 : Nat) : Int) by omega], rfl, by first | rfl | rw [World.drewN_drewN], HL2, HH⟩
        case measure => simp [intOf]; omega
    · obtain rfl : hi = lo := by omega
      have HK := Lib.hid (ret_int (k := .i64) (show ((hi : Nat) : Int) = ((dueK ls time : Nat) : Int) by
        rw [dueK_eq (t := time) (k := hi) (by have := HN.out; omega) HL.out (fun h => HH.out _ h (Nat.le_refl _))]))
      go_wp2
      go_ret
      exact ⟨HK.out, q, rfl⟩

set_option maxHeartbeats 1000000 in
theorem dueBy_any (A : Option Addr) (n c : Nat) (ls : List (Int × Int × Int × ByteArray)) (time : Int) (B : Nat) (w : World) (hn : ls.length = n) (h : LetsB w B A ls) (hB : B ≤ w.heap.size) (hasc : Asc ls) (hl : n ≤ 1048576) :
    Calls Try.prog 83 #[.slice A n c, .int .i64 time] w fun e w' => e = .returned (.int .i64 ((dueK ls time : Nat) : Int)) ∧ Below w.heap.size w w' := by
  have hb0 := below2 w (.cells #[.slice A n c] 33) (.cells #[.int .i64 time] 3)
  have hk0 := (below1 (w.alloc (.cells #[.slice A n c] 33)) (.cells #[.int .i64 time] 3)).block w.heap.size (by simp)
  have hq := cell_of_row _ _ 0 _ 33 (0, 0) (hk0.trans (heap_alloc_new w (.cells #[.slice A n c] 33)))
  have ht := cell_of_row _ _ 0 _ 3 (0, 0) (alloc_snd w (.cells #[.slice A n c] 33) (.cells #[.int .i64 time] 3))
  have HS := Lib.hid (search_any A w.heap.size (w.heap.size + 1) n c ls time B _ hn (h.below (hb0.mono hB)) hasc hl hq ht)
  clear hk0 hq ht h hasc hn
  go_enter Try.func83, Try.ntmps83
  go_wp2_with fail
  refine HS.out.mono ?_
  rintro e w1 ⟨rfl, q, rfl⟩
  have HB := Lib.hid (below_drewN hb0 q)
  clear hb0
  go_wp2
  go_ret
  exact ⟨rfl, HB.out⟩
end Go.Proofs.Ytojplmjoipjabaa.Nt
