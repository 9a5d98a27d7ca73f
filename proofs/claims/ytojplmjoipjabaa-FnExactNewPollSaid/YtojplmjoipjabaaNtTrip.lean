/-
  Contracts for the time that a letter takes: l1Most, l7Trip, TripOf of the model; TripOf of the program.
-/
import Derived.Test.YtojplmjoipjabaaNtGood3
import Derived.Test.YtojplmjoipjabaaBel
import Derived.Deep.QuietTactic
import Derived.BigQuiet
namespace Go.Proofs.Ytojplmjoipjabaa.Nt
open Go.RowKit
set_option linter.unusedVariables false
set_option linter.unusedSimpArgs false

theorem l1Most_any (a b : Int) (w : World) :
    Calls Try.prog 114 #[.int .i64 a, .int .i64 b] w fun e w' => e = .returned (.int .i64 (max a b)) ∧ w = w' := by
  by_cases h : b < a
  · rw [show max a b = a by omega]
    go_enter Try.func114, Try.ntmps114
    go_wp2
    go_ret
    exact ⟨rfl, rfl⟩
  · rw [show max a b = b by omega]
    go_enter Try.func114, Try.ntmps114
    go_wp2
    go_ret
    exact ⟨rfl, rfl⟩

theorem node_nat {m : Nat} {a : Int} (h : nodeB m a = true) : ∃ k : Nat, a = (k : Int) ∧ k < m := by
  obtain ⟨h0, h1⟩ := nodeB_true h
  exact ⟨a.toNat, by omega, by omega⟩
theorem getD_nat {is : List Int} {k : Nat} (h : k < is.length) : is.getD ((k : Int)).toNat 0 = is[k] := by
  rw [Int.toNat_natCast, List.getD_eq_getElem?_getD, List.getElem?_eq_getElem h]; rfl
theorem most_gap (x y : Int) : max (x - y) (-(x - y)) = ((x - y).natAbs : Int) := by omega

set_option maxHeartbeats 1000000 in
theorem l7Trip_any (now far : Int) (A A' : Option Addr) (n c n' c' : Nat) (is : List Int) (a b : Int) (B : Nat) (w : World) (hn : is.length = n) (h : IntsB w B A is) (hB : B ≤ w.heap.size) (hf : 0 ≤ far ∧ far ≤ 20) (hh : ∀ i ∈ is, 0 ≤ i ∧ i ≤ 2) (ha : nodeB n a = true) (hb : nodeB n b = true) (hl : n ≤ 1048576) :
    Calls Try.prog 81 #[.agg #[.int .i64 now, .slice A n c, .int .i64 far, .slice A' n' c'], .int .i64 a, .int .i64 b] w fun e w' => e = .returned (.int .i64 (tripI is far a b)) ∧ Below w.heap.size w w' := by
  obtain ⟨k, rfl, hk⟩ := node_nat ha
  obtain ⟨j, rfl, hj⟩ := node_nat hb
  obtain ⟨bl, off, rfl, hbB, hc⟩ := h.get (by omega)
  have hb0 := below1 w (.cells #[.int .i64 now, .slice (some ⟨bl, off, none⟩) n c, .int .i64 far, .slice A' n' c'] 35)
  have e1 := (hb0.cell (p := ⟨bl, off + k, none⟩) (Nat.lt_of_lt_of_le hbB hB)).trans (hc k (by omega))
  have e2 := (hb0.cell (p := ⟨bl, off + j, none⟩) (Nat.lt_of_lt_of_le hbB hB)).trans (hc j (by omega))
  have h1 := hh _ (List.getElem_mem (show k < is.length by omega))
  have h2 := hh _ (List.getElem_mem (show j < is.length by omega))
  have ht : tripI is far (k : Int) (j : Int) = 1 + far * max (is[k]'(by omega) - is[j]'(by omega)) (-(is[k]'(by omega) - is[j]'(by omega))) := by
    unfold tripI
    rw [getD_nat (show k < is.length by omega), getD_nat (show j < is.length by omega), most_gap]
  rw [ht]
  obtain ⟨x, hx⟩ : ∃ x, x = is[k]'(by omega) := ⟨_, rfl⟩
  obtain ⟨y, hy⟩ : ∃ y, y = is[j]'(by omega) := ⟨_, rfl⟩
  rw [← hx] at e1 h1 ⊢
  rw [← hy] at e2 h2 ⊢
  have hkn : (k : Int) < (n : Int) := by omega
  have hjn : (j : Int) < (n : Int) := by omega
  have hk0 : (0 : Int) ≤ (k : Int) := by omega
  have hj0 : (0 : Int) ≤ (j : Int) := by omega
  obtain ⟨hf0, hf1⟩ := hf
  obtain ⟨h10, h11⟩ := h1
  obtain ⟨h20, h21⟩ := h2
  have hm0 : 0 ≤ max (x - y) (-(x - y)) := by omega
  have hm1 : max (x - y) (-(x - y)) ≤ 2 := by omega
  have hp0 : 0 ≤ far * max (x - y) (-(x - y)) := Int.mul_nonneg hf0 hm0
  have hp1 : far * max (x - y) (-(x - y)) ≤ 40 := by have := Int.mul_le_mul hf1 hm1 hm0 (by omega : (0 : Int) ≤ 20); omega
  have HC := Lib.hid (fun W => (l1Most_any (x - y) (-(x - y)) W).mono fun e w' h => (⟨h.1, h.2.symm⟩ : e = .returned (.int .i64 (max (x - y) (-(x - y)))) ∧ w' = W))
  have HM := Lib.hid (show max (x - y) (-(x - y)) = max (x - y) (y - x) by omega)
  obtain ⟨mm, hmm⟩ : ∃ mm, mm = max (x - y) (-(x - y)) := ⟨_, rfl⟩
  rw [← hmm] at HC hm0 hm1 hp0 hp1 ⊢
  clear hx hy ht hc h hh ha hb hk hj hn hmm
  go_enter Try.func81, Try.ntmps81
  go_wp2_with fail
  go_quiet (fail)
  go_wp2_with fail
  go_quiet ((go_at_call 114; exact (HC.out _).mono (fun _ _ h => ⟨h.1, _, h.2⟩)))
  go_wp2
  go_ret
  exact ⟨rfl, by first | exact below_drewN hb0 _ | exact below_drewN (below_drewN hb0 _) _ | trivial⟩

-- TripOf

set_option maxHeartbeats 2000000 in
theorem implTripOf_any (now far : Int) (A A' : Option Addr) (n c n' c' : Nat) (is : List Int) (ls : List (Int × Int × Int × ByteArray)) (a b : Int) (B : Nat) (w : World) (hn : is.length = n) (hn' : ls.length = n') (h : IntsB w B A is) (h' : LetsB w B A' ls) (hB : B ≤ w.heap.size) (hm : LSmall ls) (hl : n ≤ 1048576) :
    Calls Try.prog 34 #[.agg #[.int .i64 now, .slice A n c, .int .i64 far, .slice A' n' c'], .int .i64 a, .int .i64 b] w fun e w' => e = .returned (.tuple #[.int .i64 (tripA now is far ls a b).1, .bool (tripA now is far ls a b).2]) ∧ Below w.heap.size w w' := by
  have hb0 := below1 w (.cells #[.int .i64 now, .slice A n c, .int .i64 far, .slice A' n' c'] 35)
  have hk0 := heap_alloc_new w (.cells #[.int .i64 now, .slice A n c, .int .i64 far, .slice A' n' c'] 35)
  have HG := Lib.hid (fun W (hW : Below w.heap.size w W) => implGoodNet_any now far A A' n c n' c' is ls B W hn hn' (h.below (hW.mono hB)) (h'.below (hW.mono hB)) (Nat.le_trans hB hW.size) hm)
  have H1 := Lib.hid (fun W => isNode_any now far A A' n c n' c' a W)
  have H2 := Lib.hid (fun W => isNode_any now far A A' n c n' c' b W)
  unfold tripA
  rw [hn]
  cases g1 : netB now is far ls with
  | false =>
    rw [g1] at HG
    simp only [Bool.false_and, Bool.false_eq_true, if_false]
    clear h h' hm hn hn' H1 H2 g1
    go_enter Try.func34, Try.ntmps34
    go_wp2_with fail
    refine (HG.out _ hb0).mono ?_
    rintro e w1 ⟨rfl, ha1⟩
    have hk1 := (ha1.block w.heap.size (lt_blk hk0)).trans hk0
    have hb1 := hb0.trans (ha1.mono hb0.size)
    have k10 := cell_of_row _ _ 0 _ 35 (0, 0) hk1
    have k11 := cell_of_row _ _ 1 _ 35 (0, 0) hk1
    have k12 := cell_of_row _ _ 2 _ 35 (0, 0) hk1
    have k13 := cell_of_row _ _ 3 _ 35 (0, 0) hk1
    clear ha1 hk0
    clear HG
    go_wp2
    go_ret2
    exact ⟨rfl, hb1⟩
  | true =>
    rw [g1] at HG
    simp only [Bool.true_and]
    cases g2 : nodeB n a with
    | false =>
      rw [g2] at H1
      simp only [Bool.false_and, Bool.false_eq_true, if_false]
      clear h h' hm hn hn' H2 g1 g2
      go_enter Try.func34, Try.ntmps34
      go_wp2_with fail
      refine (HG.out _ hb0).mono ?_
      rintro e w1 ⟨rfl, ha1⟩
      have hk1 := (ha1.block w.heap.size (lt_blk hk0)).trans hk0
      have hb1 := hb0.trans (ha1.mono hb0.size)
      have k10 := cell_of_row _ _ 0 _ 35 (0, 0) hk1
      have k11 := cell_of_row _ _ 1 _ 35 (0, 0) hk1
      have k12 := cell_of_row _ _ 2 _ 35 (0, 0) hk1
      have k13 := cell_of_row _ _ 3 _ 35 (0, 0) hk1
      clear ha1 hk0
      clear HG
      go_wp2_with fail
      refine (H1.out _).mono ?_
      rintro e w2 ⟨rfl, ha2⟩
      have hk2 := (ha2.block w.heap.size (lt_blk hk1)).trans hk1
      have hb2 := hb1.trans (ha2.mono hb1.size)
      have k20 := cell_of_row _ _ 0 _ 35 (0, 0) hk2
      have k21 := cell_of_row _ _ 1 _ 35 (0, 0) hk2
      have k22 := cell_of_row _ _ 2 _ 35 (0, 0) hk2
      have k23 := cell_of_row _ _ 3 _ 35 (0, 0) hk2
      clear ha2 hb1 hk1 k10 k11 k12 k13
      clear H1
      go_wp2
      go_ret2
      exact ⟨rfl, hb2⟩
    | true =>
      rw [g2] at H1
      simp only [Bool.true_and]
      cases g3 : nodeB n b with
      | false =>
        rw [g3] at H2
        simp only [Bool.false_eq_true, if_false]
        clear h h' hm hn hn' g1 g2 g3
        go_enter Try.func34, Try.ntmps34
        go_wp2_with fail
        refine (HG.out _ hb0).mono ?_
        rintro e w1 ⟨rfl, ha1⟩
        have hk1 := (ha1.block w.heap.size (lt_blk hk0)).trans hk0
        have hb1 := hb0.trans (ha1.mono hb0.size)
        have k10 := cell_of_row _ _ 0 _ 35 (0, 0) hk1
        have k11 := cell_of_row _ _ 1 _ 35 (0, 0) hk1
        have k12 := cell_of_row _ _ 2 _ 35 (0, 0) hk1
        have k13 := cell_of_row _ _ 3 _ 35 (0, 0) hk1
        clear ha1 hk0
        clear HG
        go_wp2_with fail
        refine (H1.out _).mono ?_
        rintro e w2 ⟨rfl, ha2⟩
        have hk2 := (ha2.block w.heap.size (lt_blk hk1)).trans hk1
        have hb2 := hb1.trans (ha2.mono hb1.size)
        have k20 := cell_of_row _ _ 0 _ 35 (0, 0) hk2
        have k21 := cell_of_row _ _ 1 _ 35 (0, 0) hk2
        have k22 := cell_of_row _ _ 2 _ 35 (0, 0) hk2
        have k23 := cell_of_row _ _ 3 _ 35 (0, 0) hk2
        clear ha2 hb1 hk1 k10 k11 k12 k13
        clear H1
        go_wp2_with fail
        refine (H2.out _).mono ?_
        rintro e w3 ⟨rfl, ha3⟩
        have hk3 := (ha3.block w.heap.size (lt_blk hk2)).trans hk2
        have hb3 := hb2.trans (ha3.mono hb2.size)
        have k30 := cell_of_row _ _ 0 _ 35 (0, 0) hk3
        have k31 := cell_of_row _ _ 1 _ 35 (0, 0) hk3
        have k32 := cell_of_row _ _ 2 _ 35 (0, 0) hk3
        have k33 := cell_of_row _ _ 3 _ 35 (0, 0) hk3
        clear ha3 hb2 hk2 k20 k21 k22 k23
        clear H2
        go_wp2
        go_ret2
        exact ⟨rfl, hb3⟩
      | true =>
        rw [g3] at H2
        simp only [if_true]
        obtain ⟨gt, gh, gf, gl, gu⟩ := netB_true g1
        obtain ⟨gh1, gh5, ghh⟩ := homesB_true gh
        have gf2 := inB_true gf
        obtain ⟨k, rfl, hk⟩ := node_nat g2
        obtain ⟨j, rfl, hj⟩ := node_nat g3
        obtain ⟨bl, off, rfl, hbB, hc⟩ := h.get (by omega)
        have h1 := ghh _ (List.getElem_mem (show k < is.length by omega))
        have h2 := ghh _ (List.getElem_mem (show j < is.length by omega))
        have ht : tripI is far (k : Int) (j : Int) = 1 + far * max (is[k]'(by omega) - is[j]'(by omega)) (is[j]'(by omega) - is[k]'(by omega)) := by
          unfold tripI
          rw [getD_nat (show k < is.length by omega), getD_nat (show j < is.length by omega), agap]
        rw [ht]
        have ck := hc k (by omega)
        have cj := hc j (by omega)
        obtain ⟨x, hx⟩ : ∃ x, x = is[k]'(by omega) := ⟨_, rfl⟩
        obtain ⟨y, hy⟩ : ∃ y, y = is[j]'(by omega) := ⟨_, rfl⟩
        rw [← hx] at ck h1 ⊢
        rw [← hy] at cj h2 ⊢
        have hkn : (k : Int) < (n : Int) := by omega
        have hjn : (j : Int) < (n : Int) := by omega
        have hkk : (0 : Int) ≤ (k : Int) := by omega
        have hjj : (0 : Int) ≤ (j : Int) := by omega
        obtain ⟨hf0, hf1⟩ := gf2
        obtain ⟨h10, h11⟩ := h1
        obtain ⟨h20, h21⟩ := h2
        have hm0 : 0 ≤ max (x - y) (y - x) := by omega
        have hm1 : max (x - y) (y - x) ≤ 2 := by omega
        have hp0 : 0 ≤ far * max (x - y) (y - x) := Int.mul_nonneg hf0 hm0
        have hp1 : far * max (x - y) (y - x) ≤ 40 := by have := Int.mul_le_mul hf1 hm1 hm0 (by omega : (0 : Int) ≤ 20); omega
        have hbw : bl < w.heap.size := Nat.lt_of_lt_of_le hbB hB
        clear hx hy ht hc h h' hm hn hn' g1 g2 g3 gt gh gf gl gu gh1 gh5 ghh hk hj
        go_enter Try.func34, Try.ntmps34
        go_wp2_with fail
        refine (HG.out _ hb0).mono ?_
        rintro e w1 ⟨rfl, ha1⟩
        have hk1 := (ha1.block w.heap.size (lt_blk hk0)).trans hk0
        have hb1 := hb0.trans (ha1.mono hb0.size)
        have k10 := cell_of_row _ _ 0 _ 35 (0, 0) hk1
        have k11 := cell_of_row _ _ 1 _ 35 (0, 0) hk1
        have k12 := cell_of_row _ _ 2 _ 35 (0, 0) hk1
        have k13 := cell_of_row _ _ 3 _ 35 (0, 0) hk1
        clear ha1 hk0
        clear HG
        go_wp2_with fail
        refine (H1.out _).mono ?_
        rintro e w2 ⟨rfl, ha2⟩
        have hk2 := (ha2.block w.heap.size (lt_blk hk1)).trans hk1
        have hb2 := hb1.trans (ha2.mono hb1.size)
        have k20 := cell_of_row _ _ 0 _ 35 (0, 0) hk2
        have k21 := cell_of_row _ _ 1 _ 35 (0, 0) hk2
        have k22 := cell_of_row _ _ 2 _ 35 (0, 0) hk2
        have k23 := cell_of_row _ _ 3 _ 35 (0, 0) hk2
        clear ha2 hb1 hk1 k10 k11 k12 k13
        clear H1
        go_wp2_with fail
        refine (H2.out _).mono ?_
        rintro e w3 ⟨rfl, ha3⟩
        have hk3 := (ha3.block w.heap.size (lt_blk hk2)).trans hk2
        have hb3 := hb2.trans (ha3.mono hb2.size)
        have k30 := cell_of_row _ _ 0 _ 35 (0, 0) hk3
        have k31 := cell_of_row _ _ 1 _ 35 (0, 0) hk3
        have k32 := cell_of_row _ _ 2 _ 35 (0, 0) hk3
        have k33 := cell_of_row _ _ 3 _ 35 (0, 0) hk3
        clear ha3 hb2 hk2 k20 k21 k22 k23
        clear H2
        have e1 := (hb3.cell (p := ⟨bl, off + k, none⟩) hbw).trans ck
        have e2 := (hb3.cell (p := ⟨bl, off + j, none⟩) hbw).trans cj
        go_wp2_with fail
        go_quiet (fail)
        go_wp2
        go_ret2
        exact ⟨rfl, by first | exact below_drewN hb3 _ | exact below_drewN (below_drewN hb3 _) _⟩
end Go.Proofs.Ytojplmjoipjabaa.Nt
