/-
  What the law FnLost asks besides: letters lost, doubled and delayed, as plain mathematics and as contracts.
-/
import Derived.Test.YtojplmjoipjabaaFsN
import Derived.Test.YtojplmjoipjabaaNtF2
namespace Go.Proofs.Ytojplmjoipjabaa.Fs
open Go.RowKit Nt
set_option linter.unusedVariables false
set_option linter.unusedSimpArgs false

section
variable {t far lo hi hi' : Int} {is : List Int} {ls : List (Int × Int × Int × ByteArray)}
theorem Run.wide (h : Run t is far ls lo hi) (h1 : hi ≤ hi') (h2 : hi' ≤ 100200) : Run t is far ls lo hi' := ⟨h.now, h.homes, h.far', h.few, h.lets.wide (Int.le_refl _) h1, h.lo0, h2⟩
theorem letAt_mem {k : Int} (h0 : 0 ≤ k) (h1 : k < (ls.length : Int)) : letAt ls k ∈ ls := by
  unfold letAt
  rw [List.getD_eq_getElem?_getD, List.getElem?_eq_getElem (by omega)]
  exact List.getElem_mem _
theorem Run.has (h : Run t is far ls lo hi) {k : Int} (h0 : 0 ≤ k) (h1 : k < (ls.length : Int)) : hasB t is far ls k = true := by
  unfold hasB; rw [h.good, inB_mk (by omega)]; rfl
theorem Run.hasNo (h : Run t is far ls lo hi) {k : Int} (h1 : ¬ k < (ls.length : Int)) : hasB t is far ls k = false := by
  unfold hasB; rw [h.good, inB_not (by omega)]; rfl
theorem Run.lost (h : Run t is far ls lo hi) {k : Int} (h0 : 0 ≤ k) (h1 : k < (ls.length : Int)) :
    loseA t is far ls k = (t, is, far, outL ls k.toNat, true) ∧ Run t is far (outL ls k.toNat) lo hi ∧ (outL ls k.toNat).length + 1 = ls.length := by
  have hl := outL_len ls k.toNat (by omega)
  refine ⟨by unfold loseA; rw [if_pos (h.has h0 h1)], ⟨h.now, h.homes, h.far', by have := h.few; omega, h.lets.out _, h.lo0, h.hi0⟩, hl⟩
theorem Run.dbl (h : Run t is far ls lo hi) {k : Int} (h0 : 0 ≤ k) (h1 : k < (ls.length : Int)) (hf : ls.length ≤ 58) :
    dblA t is far ls k = (t, is, far, insL ls (letAt ls k), true) ∧ Run t is far (insL ls (letAt ls k)) lo hi := by
  obtain ⟨a, b, c⟩ := h.lets.2 _ (letAt_mem h0 h1)
  have hR : Run t is far (insL ls (letAt ls k)) lo hi := ⟨h.now, h.homes, h.far', by rw [insL_len]; omega, h.lets.ins _ a b c, h.lo0, h.hi0⟩
  refine ⟨?_, hR⟩
  unfold dblA
  rw [if_pos (h.has h0 h1)]
  unfold ifA
  rw [if_pos hR.good]
theorem Run.dly (h : Run t is far ls lo hi) {k b : Int} (h0 : 0 ≤ k) (h1 : k < (ls.length : Int)) (hb : 1 ≤ b ∧ b ≤ 50) (hh : hi + 50 ≤ hi') (h2 : hi' ≤ 100200) :
    dlyA t is far ls k b = (t, is, far, insL (outL ls k.toNat) (later (letAt ls k) b), true) ∧ Run t is far (insL (outL ls k.toNat) (later (letAt ls k) b)) lo hi' ∧ (insL (outL ls k.toNat) (later (letAt ls k) b)).length = ls.length := by
  obtain ⟨a, b1, c⟩ := h.lets.2 _ (letAt_mem h0 h1)
  have hl := outL_len ls k.toNat (by omega)
  have ha : glB is.length (later (letAt ls k) b) = true := by
    obtain ⟨p1, p2, p3, p4, p5, p6, p7⟩ := glB_parts a
    have := h.hi0
    unfold glB later
    simp only
    rw [p1, p2, decide_eq_true p3, decide_eq_true (by omega), decide_eq_true (by omega), decide_eq_true p6, decide_eq_true p7]
    rfl
  have hR : Run t is far (insL (outL ls k.toNat) (later (letAt ls k) b)) lo hi' := ⟨h.now, h.homes, h.far', by rw [insL_len]; have := h.few; omega, ((h.lets.out _).wide (Int.le_refl _) (show hi ≤ hi' by omega)).ins _ ha (by unfold later; simp only; omega) (by unfold later; simp only; omega), h.lo0, h2⟩
  refine ⟨?_, hR, by rw [insL_len]; omega⟩
  unfold dlyA
  rw [if_pos (by rw [h.has h0 h1, inB_mk hb]; rfl)]
  unfold ifA
  rw [if_pos hR.good]
theorem Run.lostNo (h : Run t is far ls lo hi) {k : Int} (h1 : ¬ k < (ls.length : Int)) : loseA t is far ls k = noA := by
  unfold loseA; rw [h.hasNo h1]; rfl
theorem Run.dblNo (h : Run t is far ls lo hi) {k : Int} (h1 : ¬ k < (ls.length : Int)) : dblA t is far ls k = noA := by
  unfold dblA; rw [h.hasNo h1]; rfl
theorem Run.dlyNo (h : Run t is far ls lo hi) {k b : Int} (h1 : ¬ k < (ls.length : Int)) : dlyA t is far ls k b = noA := by
  unfold dlyA; rw [h.hasNo h1]; rfl
theorem sendNo (a : Int) (s : ByteArray) : sendA t is far ls a a s = noA := by
  unfold sendA
  rw [decide_eq_false (fun h => h rfl)]
  simp
end
section
variable {w w' : World} {g n : Nat} {t far : Int} {is : List Int} {ls : List (Int × Int × Int × ByteArray)} {A A' : Option Addr} {c c' : Nat}
variable (h : NetAt w g t is far ls A c A' c') (hf : Few is ls)
include h hf
theorem implLose_at (i : Int) :
    Calls Try.prog 40 #[.agg #[.int .i64 t, .slice A is.length c, .int .i64 far, .slice A' ls.length c'], .int .i64 i] w (fun e w' => Back (loseA t is far ls i).1 (loseA t is far ls i).2.1 (loseA t is far ls i).2.2.1 (loseA t is far ls i).2.2.2.1 (loseA t is far ls i).2.2.2.2 w e w') :=
  (implLoseOne_any t far A A' is.length c ls.length c' is ls i w.heap.size w rfl rfl h.2.1.ints h.2.2.lets (Nat.le_refl _) hf.2 hf.1 h.2.2.room).mono fun e w' h => back_of h
theorem implDbl_at (i : Int) :
    Calls Try.prog 41 #[.agg #[.int .i64 t, .slice A is.length c, .int .i64 far, .slice A' ls.length c'], .int .i64 i] w (fun e w' => Back (dblA t is far ls i).1 (dblA t is far ls i).2.1 (dblA t is far ls i).2.2.1 (dblA t is far ls i).2.2.2.1 (dblA t is far ls i).2.2.2.2 w e w') :=
  (implDoubleOne_any t far A A' is.length c ls.length c' is ls i w.heap.size w rfl rfl h.2.1.ints h.2.2.lets (Nat.le_refl _) hf.2 hf.1 h.2.2.room).mono fun e w' h => back_of h
theorem implDly_at (i b : Int) :
    Calls Try.prog 42 #[.agg #[.int .i64 t, .slice A is.length c, .int .i64 far, .slice A' ls.length c'], .int .i64 i, .int .i64 b] w (fun e w' => Back (dlyA t is far ls i b).1 (dlyA t is far ls i b).2.1 (dlyA t is far ls i b).2.2.1 (dlyA t is far ls i b).2.2.2.1 (dlyA t is far ls i b).2.2.2.2 w e w') :=
  (implDelayOne_any t far A A' is.length c ls.length c' is ls i b w.heap.size w rfl rfl h.2.1.ints h.2.2.lets (Nat.le_refl _) hf.2 hf.1 h.2.2.room).mono fun e w' h => back_of h
theorem implGood_at :
    Calls Try.prog 43 #[.agg #[.int .i64 t, .slice A is.length c, .int .i64 far, .slice A' ls.length c']] w (fun e w' => e = .returned (.bool (netB t is far ls)) ∧ Below w.heap.size w w') :=
  implGoodNet_any t far A A' is.length c ls.length c' is ls w.heap.size w rfl rfl h.2.1.ints h.2.2.lets (Nat.le_refl _) hf.2
theorem specGood_at :
    Calls Try.prog 44 #[.agg #[.int .i64 t, .slice A is.length c, .int .i64 far, .slice A' ls.length c']] w (fun e w' => e = .returned (.bool (netB t is far ls)) ∧ Below w.heap.size w w') :=
  specGoodNet_any t far A A' is.length c ls.length c' is ls w.heap.size w rfl rfl h.2.1.ints h.2.2.lets (Nat.le_refl _) hf.2 hf.1
end
end Go.Proofs.Ytojplmjoipjabaa.Fs
