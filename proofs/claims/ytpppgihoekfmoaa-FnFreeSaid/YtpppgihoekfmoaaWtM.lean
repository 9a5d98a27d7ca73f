/-
  Plain mathematics of watches: when one is valid; who holds a lease; what each function answers. Nothing of the program.
-/
import Derived.Test.YtpppgihoekfmoaaLeaf
namespace Go.Proofs.Ytpppgihoekfmoaa.Wt
open Go Go.RowKit
set_option linter.unusedVariables false

/-- A valid lease, among n nodes. -/
def lseB (n : Nat) (x : (Int × Int × Int)) : Bool := inB x.1 0 ((n : Int) - 1) && (inB x.2.1 (-20) 100020 && inB x.2.2 (-20) 100200)
def clksB (cs : List Int) : Bool := cs.all fun c => inB c (-5) 5
/-- A valid watch. -/
def wchB (tm : Int) (cs : List Int) (ls : List (Int × Int × Int)) : Bool :=
  inB tm 0 100000 && (inB (cs.length : Int) 1 5 && (decide (ls.length ≤ 40) && (clksB cs && ls.all (lseB cs.length))))
theorem wchB_true {tm : Int} {cs : List Int} {ls : List (Int × Int × Int)} (h : wchB tm cs ls = true) :
    (0 ≤ tm ∧ tm ≤ 100000) ∧ (1 ≤ cs.length ∧ cs.length ≤ 5) ∧ ls.length ≤ 40 ∧ clksB cs = true ∧ ls.all (lseB cs.length) = true := by
  simp only [wchB, Bool.and_eq_true, decide_eq_true_eq] at h
  have h1 := inB_true h.1
  have h2 := inB_true h.2.1
  exact ⟨h1, ⟨by omega, by omega⟩, h.2.2.1, h.2.2.2.1, h.2.2.2.2⟩
theorem clksB_at {cs : List Int} (h : clksB cs = true) (k : Nat) (hk : k < cs.length) : -5 ≤ cs[k] ∧ cs[k] ≤ 5 := by
  unfold clksB at h
  rw [List.all_eq_true] at h
  exact inB_true (h _ (List.getElem_mem hk))
theorem lseB_parts {n : Nat} {x : (Int × Int × Int)} (h : lseB n x = true) : (0 ≤ x.1 ∧ x.1 < (n : Int)) ∧ (-20 ≤ x.2.1 ∧ x.2.1 ≤ 100020) ∧ (-20 ≤ x.2.2 ∧ x.2.2 ≤ 100200) := by
  simp only [lseB, Bool.and_eq_true] at h
  have h1 := inB_true h.1
  have h2 := inB_true h.2.1
  have h3 := inB_true h.2.2
  omega
theorem lses_at {n : Nat} {ls : List (Int × Int × Int)} (h : ls.all (lseB n) = true) (k : Nat) (hk : k < ls.length) : lseB n ls[k] = true := by
  rw [List.all_eq_true] at h
  exact h _ (List.getElem_mem hk)

/-- The ends of a node's interval. -/
def lowW (tm c : Int) : Int := tm + c - 5
def highW (tm c : Int) : Int := tm + c + 5
/-- The offset of a node. -/
def offW (cs : List Int) (who : Int) : Int := cs.getD who.toNat 0
def hasW (tm : Int) (cs : List Int) (ls : List (Int × Int × Int)) (who : Int) : Bool := wchB tm cs ls && inB who 0 ((cs.length : Int) - 1)
theorem hasW_true {tm who : Int} {cs : List Int} {ls : List (Int × Int × Int)} (h : hasW tm cs ls who = true) : wchB tm cs ls = true ∧ 0 ≤ who ∧ who < (cs.length : Int) := by
  simp only [hasW, Bool.and_eq_true] at h
  have := inB_true h.2
  exact ⟨h.1, by omega⟩
theorem offW_at {cs : List Int} {who : Int} (k : Nat) (hk : k < cs.length) (hw : who = (k : Int)) : offW cs who = cs[k] := by
  subst hw
  unfold offW
  simp [List.getD, List.getElem?_eq_getElem hk]
theorem off_small {tm who : Int} {cs : List Int} {ls : List (Int × Int × Int)} (h : hasW tm cs ls who = true) : -5 ≤ offW cs who ∧ offW cs who ≤ 5 := by
  obtain ⟨h1, h2, h3⟩ := hasW_true h
  obtain ⟨_, _, _, h4, _⟩ := wchB_true h1
  rw [offW_at (cs := cs) who.toNat (by omega) (by omega)]
  exact clksB_at h4 _ _

/-- A lease that a node holds, by the upper end of its interval. -/
def holdsL (who hi : Int) (x : (Int × Int × Int)) : Bool := decide (x.1 = who) && (decide (x.2.1 ≤ hi) && decide (hi ≤ x.2.2))
def holdW (who hi : Int) (ls : List (Int × Int × Int)) : Bool := ls.any (holdsL who hi)
/-- No lease of others in the way. -/
def freeL (who lo : Int) (x : (Int × Int × Int)) : Bool := !(decide (x.1 ≠ who) && decide (lo ≤ x.2.2))
def freeW (who lo : Int) (ls : List (Int × Int × Int)) : Bool := ls.all (freeL who lo)
/-- How many steps until the leases of others are past. -/
def stepW (who lo : Int) (s : Int) (x : (Int × Int × Int)) : Int := if x.1 = who then s else max s (x.2.2 + 1 - lo)
def stepsW (who lo : Int) (ls : List (Int × Int × Int)) : Int := ls.foldl (stepW who lo) 0
/-- A lease given back. -/
def backL (who lo : Int) (x : (Int × Int × Int)) : (Int × Int × Int) := if x.1 = who ∧ lo ≤ x.2.2 then (x.1, x.2.1, lo - 1) else x

def noW : Int × List Int × List (Int × Int × Int) × Bool := (0, [], [], false)
def ifW (tm : Int) (cs : List Int) (ls : List (Int × Int × Int)) : Int × List Int × List (Int × Int × Int) × Bool := bif wchB tm cs ls then (tm, cs, ls, true) else noW
def newW (cs : List Int) : Int × List Int × List (Int × Int × Int) × Bool := ifW 0 cs []
def passW (tm : Int) (cs : List Int) (ls : List (Int × Int × Int)) (b : Int) : Int × List Int × List (Int × Int × Int) × Bool :=
  bif wchB tm cs ls && inB b 0 100000 then ifW (tm + b) cs ls else noW
def driftW (tm : Int) (cs : List Int) (ls : List (Int × Int × Int)) (who off : Int) : Int × List Int × List (Int × Int × Int) × Bool :=
  bif hasW tm cs ls who && inB off (-5) 5 then (tm, cs.set who.toNat off, ls, true) else noW
def askW (tm : Int) (cs : List Int) (ls : List (Int × Int × Int)) (who long : Int) : Int × List Int × List (Int × Int × Int) × Bool :=
  bif hasW tm cs ls who && (inB long 1 100 && freeW who (lowW tm (offW cs who)) ls) then
    ifW tm cs (ls ++ [(who, lowW tm (offW cs who), highW tm (offW cs who) + long)]) else noW
def giveW (tm : Int) (cs : List Int) (ls : List (Int × Int × Int)) (who : Int) : Int × List Int × List (Int × Int × Int) × Bool :=
  bif hasW tm cs ls who && holdW who (highW tm (offW cs who)) ls then
    (tm, cs, ls.map (backL who (lowW tm (offW cs who))), true) else noW
def holdsW (tm : Int) (cs : List Int) (ls : List (Int × Int × Int)) (who : Int) : Bool × Bool :=
  bif hasW tm cs ls who then (holdW who (highW tm (offW cs who)) ls, true) else (false, false)
/-- The nodes below k that hold a lease. -/
def holdersN (tm : Int) (cs : List Int) (ls : List (Int × Int × Int)) (k : Nat) : List Int :=
  ((List.range k).filter fun (i : Nat) => holdW (i : Int) (highW tm (offW cs (i : Int))) ls).map fun (i : Nat) => (i : Int)
def holdersW (tm : Int) (cs : List Int) (ls : List (Int × Int × Int)) : List Int × Bool :=
  bif wchB tm cs ls then (holdersN tm cs ls cs.length, true) else ([], false)
def whenW (tm : Int) (cs : List Int) (ls : List (Int × Int × Int)) (who : Int) : Int × Bool :=
  bif hasW tm cs ls who && decide (tm + stepsW who (lowW tm (offW cs who)) ls ≤ 100000) then (stepsW who (lowW tm (offW cs who)) ls, true) else (0, false)
/-- What one act does; whether it was done. -/
def doW (tm : Int) (cs : List Int) (ls : List (Int × Int × Int)) (a : (Int × Int × Int)) : Int × List Int × List (Int × Int × Int) × Bool :=
  if a.1 = 1 then askW tm cs ls a.2.1 a.2.2 else if a.1 = 2 then passW tm cs ls a.2.2 else if a.1 = 3 then driftW tm cs ls a.2.1 a.2.2 else if a.1 = 4 then giveW tm cs ls a.2.1 else noW
/-- A watch behind one act. -/
def nextW (s : Int × List Int × List (Int × Int × Int)) (a : (Int × Int × Int)) : Int × List Int × List (Int × Int × Int) :=
  bif (doW s.1 s.2.1 s.2.2 a).2.2.2 then ((doW s.1 s.2.1 s.2.2 a).1, (doW s.1 s.2.1 s.2.2 a).2.1, (doW s.1 s.2.1 s.2.2 a).2.2.1) else s
def playW (tm : Int) (cs : List Int) (ls : List (Int × Int × Int)) (acts : List (Int × Int × Int)) : Int × List Int × List (Int × Int × Int) × Bool :=
  bif wchB tm cs ls && decide (acts.length ≤ 100) then
    ((acts.foldl nextW (tm, cs, ls)).1, (acts.foldl nextW (tm, cs, ls)).2.1, (acts.foldl nextW (tm, cs, ls)).2.2, true) else noW

/-! ### Steps until free -/
theorem stepW_le {who lo s : Int} {x : (Int × Int × Int)} : s ≤ stepW who lo s x := by unfold stepW; split <;> omega
theorem steps_from {who lo : Int} : ∀ (ls : List (Int × Int × Int)) (s : Int), s ≤ ls.foldl (stepW who lo) s
  | [], s => Int.le_refl s
  | x :: l, s => by
    rw [List.foldl_cons]
    exact Int.le_trans stepW_le (steps_from l _)
theorem steps_ge {who lo : Int} {ls : List (Int × Int × Int)} : 0 ≤ stepsW who lo ls := steps_from ls 0
theorem freeL_iff {who lo : Int} {x : (Int × Int × Int)} : freeL who lo x = true ↔ (x.1 ≠ who → x.2.2 < lo) := by
  unfold freeL
  by_cases h1 : x.1 = who
  · simp [h1]
  · by_cases h2 : lo ≤ x.2.2
    · simp [h1, h2]
    · simp [h1, h2]; omega
theorem steps_zero {who lo : Int} : ∀ (ls : List (Int × Int × Int)), (ls.foldl (stepW who lo) 0 ≤ 0) = (freeW who lo ls = true)
  | [] => by simp [freeW]
  | x :: l => by
    rw [List.foldl_cons]
    unfold freeW
    rw [List.all_cons, Bool.and_eq_true, freeL_iff]
    by_cases h1 : x.1 = who
    · rw [show stepW who lo 0 x = 0 by simp [stepW, h1], steps_zero l]
      simp [h1, freeW]
    · by_cases h2 : x.2.2 < lo
      · rw [show stepW who lo 0 x = 0 by unfold stepW; rw [if_neg h1]; omega, steps_zero l]
        simp [h1, h2, freeW]
      · have h3 : 0 < stepW who lo 0 x := by unfold stepW; rw [if_neg h1]; omega
        have h4 := steps_from (who := who) (lo := lo) l (stepW who lo 0 x)
        have h5 : ¬ (l.foldl (stepW who lo) (stepW who lo 0 x) ≤ 0) := by omega
        simp [h1, h2, h5]
theorem steps_free {who lo : Int} (ls : List (Int × Int × Int)) : freeW who lo ls = decide (stepsW who lo ls ≤ 0) := by
  have h := steps_zero (who := who) (lo := lo) ls
  unfold stepsW
  by_cases h1 : ls.foldl (stepW who lo) 0 ≤ 0
  · rw [decide_eq_true h1, ← h]; exact h1
  · rw [decide_eq_false h1]
    cases e : freeW who lo ls with
    | false => rfl
    | true => exact absurd (h.mpr e) h1
theorem steps_succ {who lo : Int} {ls : List (Int × Int × Int)} {k : Nat} (hk : k < ls.length) : stepsW who lo (ls.take (k + 1)) = stepW who lo (stepsW who lo (ls.take k)) ls[k] := by
  unfold stepsW
  rw [List.take_succ_eq_append_getElem hk, List.foldl_append]
  rfl
/-- The steps are small where the leases are valid. -/
theorem steps_small {who lo : Int} : ∀ (ls : List (Int × Int × Int)) (s : Int), s ≤ 200000 → -20 ≤ lo → (∀ x ∈ ls, x.2.2 ≤ 100200) → ls.foldl (stepW who lo) s ≤ 200000
  | [], s, hs, _, _ => hs
  | x :: l, s, hs, hlo, h => by
    rw [List.foldl_cons]
    refine steps_small l _ ?_ hlo fun y hy => h y (by simp [hy])
    have := h x (by simp)
    unfold stepW
    split <;> omega

/-! ### What an act keeps -/
theorem ifW_some {tm : Int} {cs : List Int} {ls : List (Int × Int × Int)} (h : wchB tm cs ls = true) : ifW tm cs ls = (tm, cs, ls, true) := by simp [ifW, h]
theorem ifW_none {tm : Int} {cs : List Int} {ls : List (Int × Int × Int)} (h : wchB tm cs ls = false) : ifW tm cs ls = noW := by simp [ifW, h]
theorem ifW_good {tm : Int} {cs : List Int} {ls : List (Int × Int × Int)} (h : (ifW tm cs ls).2.2.2 = true) : wchB (ifW tm cs ls).1 (ifW tm cs ls).2.1 (ifW tm cs ls).2.2.1 = true := by
  cases e : wchB tm cs ls with
  | true => rw [ifW_some e]; exact e
  | false => rw [ifW_none e] at h; cases h
end Go.Proofs.Ytpppgihoekfmoaa.Wt
