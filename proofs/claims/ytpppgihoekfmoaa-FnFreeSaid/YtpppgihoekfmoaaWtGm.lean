/-
  Mathematics of FnGiven and FnFree: a lease that was obtained is held, one that was given back is not; who waits for the computed time obtains a lease, and not one unit earlier.
-/
import Derived.Test.YtpppgihoekfmoaaWtN
namespace Go.Proofs.Ytpppgihoekfmoaa.Wt
open Go Go.RowKit
set_option linter.unusedVariables false

theorem ask_ok {tm who long t' : Int} {cs cs' : List Int} {ls ls' : List (Int × Int × Int)} (h : askW tm cs ls who long = (t', cs', ls', true)) :
    t' = tm ∧ cs' = cs ∧ ls' = ls ++ [(who, lowW tm (offW cs who), highW tm (offW cs who) + long)] ∧ hasW tm cs ls' who = true ∧ 1 ≤ long ∧ long ≤ 100 := by
  unfold askW at h
  cases g : (hasW tm cs ls who && (inB long 1 100 && freeW who (lowW tm (offW cs who)) ls)) with
  | false => rw [g] at h; simp only [cond_false, noW, Prod.mk.injEq] at h; exact absurd h.2.2.2 (by decide)
  | true =>
    rw [g] at h
    simp only [cond_true] at h
    obtain ⟨e1, e2⟩ := ifW_ok (show (ifW tm cs (ls ++ [(who, lowW tm (offW cs who), highW tm (offW cs who) + long)])).2.2.2 = true by rw [h])
    rw [e1] at h
    simp only [Prod.mk.injEq] at h
    obtain ⟨rfl, rfl, rfl, _⟩ := h
    simp only [Bool.and_eq_true] at g
    obtain ⟨g1, g2, g3⟩ := g
    have g2 := inB_true g2
    have h1 := (hasW_true g1)
    refine ⟨rfl, rfl, rfl, ?_, g2.1, g2.2⟩
    unfold hasW
    rw [e2]
    unfold hasW at g1
    simp only [Bool.and_eq_true] at g1
    rw [g1.2]; rfl
theorem ask_no {tm who long t' : Int} {cs cs' : List Int} {ls ls' : List (Int × Int × Int)} (h : askW tm cs ls who long = (t', cs', ls', false)) : t' = 0 ∧ cs' = [] ∧ ls' = [] := by
  unfold askW at h
  cases g : (hasW tm cs ls who && (inB long 1 100 && freeW who (lowW tm (offW cs who)) ls)) with
  | false => rw [g] at h; simp only [cond_false, noW, Prod.mk.injEq] at h; exact ⟨h.1.symm, h.2.1.symm, h.2.2.1.symm⟩
  | true =>
    rw [g] at h
    simp only [cond_true] at h
    unfold ifW at h
    cases g2 : wchB tm cs (ls ++ [(who, lowW tm (offW cs who), highW tm (offW cs who) + long)]) with
    | false => rw [g2] at h; simp only [cond_false, noW, Prod.mk.injEq] at h; exact ⟨h.1.symm, h.2.1.symm, h.2.2.1.symm⟩
    | true => rw [g2] at h; simp only [cond_true, Prod.mk.injEq] at h; exact absurd h.2.2.2 (by decide)
theorem hold_last {who hi p q : Int} {ls : List (Int × Int × Int)} (h1 : p ≤ hi) (h2 : hi ≤ q) : holdW who hi (ls ++ [(who, p, q)]) = true := by
  unfold holdW
  rw [List.any_append]
  simp [holdsL, h1, h2]
/-- A node that obtains a lease holds it. -/
theorem given_holds {tm who long t' : Int} {cs cs' : List Int} {ls ls' : List (Int × Int × Int)} (h : askW tm cs ls who long = (t', cs', ls', true)) : holdsW t' cs' ls' who = (true, true) := by
  obtain ⟨rfl, rfl, hl, hh, h1, h2⟩ := ask_ok h
  unfold holdsW
  rw [hh]
  simp only [cond_true]
  rw [hl, hold_last (by unfold lowW highW; omega) (by omega)]
/-- It holds it for the time that it asked for. -/
theorem given_still {tm who long t' t2 : Int} {cs cs' c2 : List Int} {ls ls' l2 : List (Int × Int × Int)} (h : askW tm cs ls who long = (t', cs', ls', true)) (hp : passW t' cs' ls' long = (t2, c2, l2, true)) : (holdsW t2 c2 l2 who).1 = true := by
  obtain ⟨rfl, rfl, hl, hh, h1, h2⟩ := ask_ok h
  unfold passW at hp
  cases g : (wchB t' cs' ls' && inB long 0 100000) with
  | false => rw [g] at hp; simp only [cond_false, noW, Prod.mk.injEq] at hp; exact absurd hp.2.2.2 (by decide)
  | true =>
    rw [g] at hp
    simp only [cond_true] at hp
    obtain ⟨e1, e2⟩ := ifW_ok (show (ifW (t' + long) cs' ls').2.2.2 = true by rw [hp])
    rw [e1] at hp
    simp only [Prod.mk.injEq] at hp
    obtain ⟨rfl, rfl, rfl, _⟩ := hp
    unfold holdsW
    have hh2 : hasW (t' + long) cs' ls' who = true := by
      unfold hasW at hh ⊢
      rw [e2]
      simp only [Bool.and_eq_true] at hh
      rw [hh.2]; rfl
    rw [hh2]
    simp only [cond_true]
    rw [hl, hold_last (by unfold lowW highW; omega) (by unfold highW; omega)]
/-- It may give it back. -/
theorem given_back {tm who long t' : Int} {cs cs' : List Int} {ls ls' : List (Int × Int × Int)} (h : askW tm cs ls who long = (t', cs', ls', true)) :
    giveW t' cs' ls' who = (t', cs', ls'.map (backL who (lowW t' (offW cs' who))), true) ∧ (holdsW t' cs' (ls'.map (backL who (lowW t' (offW cs' who)))) who).1 = false := by
  obtain ⟨rfl, rfl, hl, hh, h1, h2⟩ := ask_ok h
  have hb : holdW who (highW t' (offW cs' who)) ls' = true := by rw [hl, hold_last (by unfold lowW highW; omega) (by omega)]
  refine ⟨by unfold giveW; rw [hh, hb]; rfl, ?_⟩
  unfold holdsW
  cases g : hasW t' cs' (ls'.map (backL who (lowW t' (offW cs' who)))) who with
  | false => rfl
  | true =>
    simp only [cond_true]
    unfold holdW
    rw [List.any_eq_false]
    intro x hx
    obtain ⟨y, _, rfl⟩ := List.mem_map.1 hx
    have hlh : lowW t' (offW cs' who) < highW t' (offW cs' who) := by unfold lowW highW; omega
    unfold holdsL backL
    split
    · rename_i hc
      simp only [hc.1, Bool.and_eq_true, decide_eq_true_eq, not_and]
      intros; omega
    · rename_i hc
      simp only [Bool.and_eq_true, decide_eq_true_eq, not_and]
      intro hw1 _ hw2
      exact hc ⟨hw1, by omega⟩

/-! ### FnFree -/
theorem steps_le {who lo m : Int} : ∀ (ls : List (Int × Int × Int)) (s : Int), ls.foldl (stepW who lo) s ≤ m ↔ (s ≤ m ∧ ∀ x ∈ ls, x.1 ≠ who → x.2.2 + 1 - lo ≤ m)
  | [], s => by simp
  | x :: l, s => by
    rw [List.foldl_cons, steps_le l]
    unfold stepW
    by_cases h : x.1 = who
    · simp [h]
    · simp only [h, if_false, List.mem_cons, forall_eq_or_imp]
      constructor
      · intro ⟨h1, h2⟩; exact ⟨by omega, fun _ => by omega, h2⟩
      · intro ⟨h1, h2, h3⟩; exact ⟨by have := h2 h; omega, h3⟩
theorem free_after {who lo m : Int} {ls : List (Int × Int × Int)} (h0 : 0 ≤ m) : freeW who (lo + m) ls = decide (stepsW who lo ls ≤ m) := by
  rw [steps_free]
  unfold stepsW
  have h1 := steps_le (who := who) (lo := lo + m) (m := 0) ls 0
  have h2 := steps_le (who := who) (lo := lo) (m := m) ls 0
  have e : (ls.foldl (stepW who (lo + m)) 0 ≤ 0) ↔ (ls.foldl (stepW who lo) 0 ≤ m) := by
    rw [h1, h2]
    constructor
    · intro ⟨_, h⟩; exact ⟨h0, fun x hx hne => by have := h x hx hne; omega⟩
    · intro ⟨_, h⟩; exact ⟨by omega, fun x hx hne => by have := h x hx hne; omega⟩
  exact decide_eq_decide.2 e
theorem low_add {tm n c : Int} : lowW (tm + n) c = lowW tm c + n := by unfold lowW; omega
theorem has_add {tm n who : Int} {cs : List Int} {ls : List (Int × Int × Int)} (h : hasW tm cs ls who = true) (h0 : 0 ≤ n) (h1 : tm + n ≤ 100000) : wchB (tm + n) cs ls = true ∧ hasW (tm + n) cs ls who = true := by
  obtain ⟨hw, _⟩ := hasW_true h
  have ht := (wchB_true hw).1
  have hw2 : wchB (tm + n) cs ls = true := by
    unfold wchB at hw ⊢
    simp only [Bool.and_eq_true] at hw ⊢
    refine ⟨?_, hw.2⟩
    unfold inB; simp; omega
  refine ⟨hw2, ?_⟩
  unfold hasW at h ⊢
  rw [hw2]
  simp only [Bool.and_eq_true] at h
  rw [h.2]; rfl
theorem pass_some {tm n who : Int} {cs : List Int} {ls : List (Int × Int × Int)} (h : hasW tm cs ls who = true) (h0 : 0 ≤ n) (h1 : tm + n ≤ 100000) : passW tm cs ls n = (tm + n, cs, ls, true) := by
  have h2 := (has_add h h0 h1).1
  have ht := (wchB_true (hasW_true h).1).1
  unfold passW
  rw [(hasW_true h).1, show inB n 0 100000 = true by unfold inB; simp; omega]
  simp only [Bool.and_self, cond_true]
  exact ifW_some h2
theorem when_ok {tm who n : Int} {cs : List Int} {ls : List (Int × Int × Int)} (h : whenW tm cs ls who = (n, true)) : hasW tm cs ls who = true ∧ n = stepsW who (lowW tm (offW cs who)) ls ∧ tm + n ≤ 100000 ∧ 0 ≤ n := by
  unfold whenW at h
  cases g : (hasW tm cs ls who && decide (tm + stepsW who (lowW tm (offW cs who)) ls ≤ 100000)) with
  | false => rw [g] at h; simp only [cond_false, Prod.mk.injEq] at h; exact absurd h.2 (by decide)
  | true =>
    rw [g] at h
    simp only [cond_true, Prod.mk.injEq] at h
    simp only [Bool.and_eq_true, decide_eq_true_eq] at g
    obtain ⟨rfl, _⟩ := h
    exact ⟨g.1, rfl, g.2, steps_ge⟩
/-- Who waits for the computed time obtains a lease. -/
theorem free_then {tm who n : Int} {cs : List Int} {ls : List (Int × Int × Int)} (h : whenW tm cs ls who = (n, true)) (hl : ls.length ≠ 40) : passW tm cs ls n = (tm + n, cs, ls, true) ∧ (askW (tm + n) cs ls who 1).2.2.2 = true := by
  obtain ⟨hh, hn, h1, h0⟩ := when_ok h
  have hp := pass_some hh h0 h1
  obtain ⟨hw2, hh2⟩ := has_add hh h0 h1
  refine ⟨hp, ?_⟩
  have hoff := off_small hh
  obtain ⟨ht, hc, hl40, hck, hall⟩ := wchB_true hw2
  have hwho := hasW_true hh2
  unfold askW
  rw [hh2, show inB (1 : Int) 1 100 = true by decide, low_add, free_after h0, decide_eq_true (show stepsW who (lowW tm (offW cs who)) ls ≤ n by omega)]
  simp only [Bool.and_self, cond_true]
  have hg : wchB (tm + n) cs (ls ++ [(who, lowW tm (offW cs who) + n, highW (tm + n) (offW cs who) + 1)]) = true := by
    unfold wchB at hw2 ⊢
    simp only [Bool.and_eq_true] at hw2 ⊢
    refine ⟨hw2.1, hw2.2.1, ?_, hw2.2.2.2.1, ?_⟩
    · simp; omega
    · rw [List.all_append]
      simp only [Bool.and_eq_true]
      refine ⟨hw2.2.2.2.2, ?_⟩
      simp [lseB, inB, lowW, highW]
      omega
  unfold ifW
  rw [hg]; rfl
/-- And not one unit earlier. -/
theorem free_early {tm who n : Int} {cs : List Int} {ls : List (Int × Int × Int)} (h : whenW tm cs ls who = (n, true)) (hn0 : 0 < n) : passW tm cs ls (n - 1) = (tm + (n - 1), cs, ls, true) ∧ (askW (tm + (n - 1)) cs ls who 1).2.2.2 = false := by
  obtain ⟨hh, hn, h1, h0⟩ := when_ok h
  refine ⟨pass_some hh (by omega) (by omega), ?_⟩
  obtain ⟨hw2, hh2⟩ := has_add hh (show 0 ≤ n - 1 by omega) (by omega)
  unfold askW
  rw [low_add, free_after (show 0 ≤ n - 1 by omega), decide_eq_false (show ¬ stepsW who (lowW tm (offW cs who)) ls ≤ n - 1 by omega)]
  simp [noW]
end Go.Proofs.Ytpppgihoekfmoaa.Wt
