/-
  Plain mathematics of runs of a watch: leases of two nodes never overlap. Nothing of the program.
-/
import Derived.Test.YtpppgihoekfmoaaWtM
namespace Go.Proofs.Ytpppgihoekfmoaa.Wt
open Go Go.RowKit
set_option linter.unusedVariables false

/-- A lease that another node's lease follows is past. -/
def apart (tm : Int) (ls : List (Int × Int × Int)) : Prop := ls.Pairwise fun x y => x.1 ≠ y.1 → x.2.2 < tm
theorem apart_pass {tm tm' : Int} {ls : List (Int × Int × Int)} (h : apart tm ls) (ht : tm ≤ tm') : apart tm' ls := h.imp fun hr hne => Int.lt_of_lt_of_le (hr hne) ht
theorem apart_ask {tm lo a p q : Int} {ls : List (Int × Int × Int)} (h : apart tm ls) (hf : freeW a lo ls = true) (hl : lo ≤ tm) : apart tm (ls ++ [(a, p, q)]) := by
  unfold apart
  rw [List.pairwise_append]
  refine ⟨h, List.pairwise_singleton _ _, fun x hx y hy hne => ?_⟩
  rw [List.mem_singleton] at hy
  subst hy
  unfold freeW at hf
  rw [List.all_eq_true] at hf
  have := freeL_iff.1 (hf x hx) hne
  omega
theorem back_fst {a lo : Int} {x : (Int × Int × Int)} : (backL a lo x).1 = x.1 ∧ (backL a lo x).2.2 ≤ x.2.2 := by
  unfold backL
  split
  · rename_i h; exact ⟨rfl, by simp only; omega⟩
  · exact ⟨rfl, Int.le_refl _⟩
theorem apart_give {tm a lo : Int} {ls : List (Int × Int × Int)} (h : apart tm ls) : apart tm (ls.map (backL a lo)) := by
  unfold apart
  rw [List.pairwise_map]
  refine h.imp fun {x y} hr hne => ?_
  have h1 := back_fst (a := a) (lo := lo) (x := x)
  have h2 := back_fst (a := a) (lo := lo) (x := y)
  rw [h1.1, h2.1] at hne
  have := hr hne
  omega
theorem pw_all {tm : Int} : ∀ {ls : List (Int × Int × Int)}, apart tm ls → ∀ x ∈ ls, ∀ y ∈ ls, x.1 ≠ y.1 → x.2.2 < tm ∨ y.2.2 < tm
  | [], _, x, hx, _, _, _ => by simp at hx
  | z :: l, h, x, hx, y, hy, hne => by
    obtain ⟨h1, h2⟩ := List.pairwise_cons.1 h
    rcases List.mem_cons.1 hx with ex | hx'
    · rcases List.mem_cons.1 hy with ey | hy'
      · exact absurd (by rw [ex, ey]) hne
      · exact .inl (by rw [ex]; exact h1 y hy' (by rw [← ex]; exact hne))
    · rcases List.mem_cons.1 hy with ey | hy'
      · exact .inr (by rw [ey]; exact h1 x hx' (by rw [← ey]; exact Ne.symm hne))
      · exact pw_all h2 x hx' y hy' hne
theorem filter_one {p : Nat → Bool} {l : List Nat} (hn : l.Nodup) (h : ∀ x ∈ l, ∀ y ∈ l, p x = true → p y = true → x = y) : (l.filter p).length ≤ 1 := by
  have hnf := hn.filter p
  cases e : l.filter p with
  | nil => simp
  | cons x t =>
    cases t with
    | nil => simp
    | cons y t =>
      rw [e] at hnf
      have hx : x ∈ l.filter p := by rw [e]; simp
      have hy : y ∈ l.filter p := by rw [e]; simp
      rw [List.mem_filter] at hx hy
      have := h x hx.1 y hy.1 hx.2 hy.2
      subst this
      simp at hnf
theorem holdsL_true {who hi : Int} {x : (Int × Int × Int)} (h : holdsL who hi x = true) : x.1 = who ∧ hi ≤ x.2.2 := by
  unfold holdsL at h
  simp only [Bool.and_eq_true, decide_eq_true_eq] at h
  exact ⟨h.1, h.2.2⟩
/-- No two nodes hold a lease at the same time. -/
theorem holders_one {tm : Int} {cs : List Int} {ls : List (Int × Int × Int)} (hw : wchB tm cs ls = true) (ha : apart tm ls) : (holdersN tm cs ls cs.length).length ≤ 1 := by
  unfold holdersN
  rw [List.length_map]
  refine filter_one List.nodup_range fun i hi j hj h1 h2 => ?_
  rw [List.mem_range] at hi hj
  have hc := (wchB_true hw).2.2.2.1
  have o1 := clksB_at hc i hi
  have o2 := clksB_at hc j hj
  rw [offW_at (cs := cs) i hi rfl] at h1
  rw [offW_at (cs := cs) j hj rfl] at h2
  unfold holdW at h1 h2
  rw [List.any_eq_true] at h1 h2
  obtain ⟨x, hx, k1⟩ := h1
  obtain ⟨y, hy, k2⟩ := h2
  obtain ⟨x1, x2⟩ := holdsL_true k1
  obtain ⟨y1, y2⟩ := holdsL_true k2
  unfold highW at x2 y2
  by_cases hij : i = j
  · exact hij
  · have := pw_all ha x hx y hy (by omega)
    omega
theorem good_drift {tm : Int} {cs : List Int} {ls : List (Int × Int × Int)} {k : Nat} {b : Int} (hw : wchB tm cs ls = true) (hb : inB b (-5) 5 = true) : wchB tm (cs.set k b) ls = true := by
  unfold wchB at hw ⊢
  rw [List.length_set]
  simp only [Bool.and_eq_true] at hw ⊢
  refine ⟨hw.1, hw.2.1, hw.2.2.1, ?_, hw.2.2.2.2⟩
  have hc := hw.2.2.2.1
  unfold clksB at hc ⊢
  rw [List.all_eq_true] at hc ⊢
  intro x hx
  rcases List.mem_or_eq_of_mem_set hx with hx | hx
  · exact hc x hx
  · rw [hx]; exact hb
theorem good_give {tm a lo : Int} {cs : List Int} {ls : List (Int × Int × Int)} (hw : wchB tm cs ls = true) (h1 : -11 ≤ lo) (h2 : lo ≤ 100020) : wchB tm cs (ls.map (backL a lo)) = true := by
  unfold wchB at hw ⊢
  rw [List.length_map]
  simp only [Bool.and_eq_true] at hw ⊢
  refine ⟨hw.1, hw.2.1, hw.2.2.1, hw.2.2.2.1, ?_⟩
  have hc := hw.2.2.2.2
  rw [List.all_eq_true] at hc ⊢
  intro x hx
  obtain ⟨y, hy, rfl⟩ := List.mem_map.1 hx
  have hp := lseB_parts (hc y hy)
  unfold backL
  split
  · unfold lseB
    rw [inB_mk (show 0 ≤ y.1 ∧ y.1 ≤ (cs.length : Int) - 1 by omega), inB_mk hp.2.1, inB_mk (show -20 ≤ lo - 1 ∧ lo - 1 ≤ 100200 by omega)]
    rfl
  · exact hc y hy
/-- What a run keeps. -/
def runB (s : Int × List Int × List (Int × Int × Int)) : Prop := wchB s.1 s.2.1 s.2.2 = true ∧ apart s.1 s.2.2
theorem ifW_ok {tm : Int} {cs : List Int} {ls : List (Int × Int × Int)} (h : (ifW tm cs ls).2.2.2 = true) : ifW tm cs ls = (tm, cs, ls, true) ∧ wchB tm cs ls = true := by
  cases e : wchB tm cs ls with
  | true => exact ⟨ifW_some e, rfl⟩
  | false => rw [ifW_none e] at h; cases h
theorem run_next {s : Int × List Int × List (Int × Int × Int)} {a : (Int × Int × Int)} (h : runB s) : runB (nextW s a) := by
  obtain ⟨tm, cs, ls⟩ := s
  obtain ⟨hw, ha⟩ := h
  simp only at hw ha
  unfold nextW
  simp only
  cases e : (doW tm cs ls a).2.2.2 with
  | false => exact ⟨hw, ha⟩
  | true =>
    simp only [cond_true]
    unfold doW at e ⊢
    by_cases h1 : a.1 = 1
    · simp only [h1, if_true] at e ⊢
      unfold askW at e ⊢
      cases g : (hasW tm cs ls a.2.1 && (inB a.2.2 1 100 && freeW a.2.1 (lowW tm (offW cs a.2.1)) ls)) with
      | false => rw [g] at e; cases e
      | true =>
        rw [g] at e
        simp only [cond_true] at e ⊢
        obtain ⟨e1, e2⟩ := ifW_ok e
        rw [e1]
        simp only [Bool.and_eq_true] at g
        have ho := off_small g.1
        exact ⟨e2, apart_ask ha g.2.2 (by unfold lowW; omega)⟩
    · simp only [h1, if_false] at e ⊢
      by_cases h2 : a.1 = 2
      · simp only [h2, if_true] at e ⊢
        unfold passW at e ⊢
        cases g : (wchB tm cs ls && inB a.2.2 0 100000) with
        | false => rw [g] at e; cases e
        | true =>
          rw [g] at e
          simp only [cond_true] at e ⊢
          obtain ⟨e1, e2⟩ := ifW_ok e
          rw [e1]
          simp only [Bool.and_eq_true] at g
          have hb := inB_true g.2
          exact ⟨e2, apart_pass ha (by simp only; omega)⟩
      · simp only [h2, if_false] at e ⊢
        by_cases h3 : a.1 = 3
        · simp only [h3, if_true] at e ⊢
          unfold driftW at e ⊢
          cases g : (hasW tm cs ls a.2.1 && inB a.2.2 (-5) 5) with
          | false => rw [g] at e; cases e
          | true =>
            simp only [cond_true]
            simp only [Bool.and_eq_true] at g
            exact ⟨good_drift hw g.2, ha⟩
        · simp only [h3, if_false] at e ⊢
          by_cases h4 : a.1 = 4
          · simp only [h4, if_true] at e ⊢
            unfold giveW at e ⊢
            cases g : (hasW tm cs ls a.2.1 && holdW a.2.1 (highW tm (offW cs a.2.1)) ls) with
            | false => rw [g] at e; cases e
            | true =>
              simp only [cond_true]
              simp only [Bool.and_eq_true] at g
              have ho := off_small g.1
              have ht := (wchB_true hw).1
              exact ⟨good_give hw (by unfold lowW; omega) (by unfold lowW; omega), apart_give ha⟩
          · simp only [h4, if_false] at e
            cases e
theorem play_one {s : Int × List Int × List (Int × Int × Int)} {a : (Int × Int × Int)} (h : runB s) : playW s.1 s.2.1 s.2.2 [a] = ((nextW s a).1, (nextW s a).2.1, (nextW s a).2.2, true) := by
  obtain ⟨hw, _⟩ := h
  simp [playW, hw]
theorem run_new {cs : List Int} (h : wchB 0 cs [] = true) : runB (0, cs, []) := ⟨h, List.Pairwise.nil⟩
end Go.Proofs.Ytpppgihoekfmoaa.Wt
