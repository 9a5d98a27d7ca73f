/-
  Plain mathematics of the laws FnSent and FnLost: what a net keeps when letters are sent, lost, doubled, delayed and delivered. Nothing of the program.
-/
import Derived.Test.YtojplmjoipjabaaNtM
namespace Go.Proofs.Ytojplmjoipjabaa.Fs
open Go Go.RowKit Nt
set_option linter.unusedVariables false

/-- A net's letters: valid, few, due behind the time `lo` and by `hi`. -/
def Let (m : Nat) (lo hi : Int) (ls : List (Int × Int × Int × ByteArray)) : Prop := Asc ls ∧ ∀ x ∈ ls, glB m x = true ∧ lo ≤ x.2.2.1 ∧ x.2.2.1 ≤ hi
theorem net_mk {now far : Int} {is : List Int} {ls : List (Int × Int × Int × ByteArray)} {lo hi : Int} (h1 : inB now 0 100000 = true) (h2 : homesB is = true) (h3 : inB far 0 20 = true) (h4 : ls.length ≤ 60) (h5 : Let is.length lo hi ls) (h6 : 0 ≤ lo) : netB now is far ls = true := by
  unfold netB
  rw [h1, h2, h3, decide_eq_true h4, undB_mk h5.1 fun x hx => ⟨by have := (h5.2 x hx).2.1; omega, (h5.2 x hx).1⟩]
  rfl
theorem Let.wide {m : Nat} {lo hi lo' hi' : Int} {ls : List (Int × Int × Int × ByteArray)} (h : Let m lo hi ls) (h1 : lo' ≤ lo) (h2 : hi ≤ hi') : Let m lo' hi' ls :=
  ⟨h.1, fun x hx => by obtain ⟨a, b, c⟩ := h.2 x hx; exact ⟨a, by omega, by omega⟩⟩
theorem Let.nil {m : Nat} {lo hi : Int} : Let m lo hi [] := ⟨List.Pairwise.nil, by simp⟩
theorem insL_asc {ls : List (Int × Int × Int × ByteArray)} (h : Asc ls) (x : (Int × Int × Int × ByteArray)) : Asc (insL ls x) := by
  unfold insL Asc
  have ht : (ls.take (dueK ls x.2.2.1) ++ ls.drop (dueK ls x.2.2.1)) = ls := List.take_append_drop _ _
  have h0 : (ls.take (dueK ls x.2.2.1) ++ ls.drop (dueK ls x.2.2.1)).Pairwise fun x y => x.2.2.1 ≤ y.2.2.1 := by rw [ht]; exact h
  obtain ⟨p1, p2, p3⟩ := List.pairwise_append.1 h0
  refine List.pairwise_append.2 ⟨p1, List.pairwise_cons.2 ⟨fun y hy => ?_, p2⟩, fun y hy z hz => ?_⟩
  · obtain ⟨j, hj, rfl⟩ := List.mem_iff_getElem.1 hy
    rw [List.getElem_drop]
    have := dueK_mono h x.2.2.1 (dueK ls x.2.2.1 + j) (by rw [List.length_drop] at hj; omega) (by omega)
    omega
  · rcases List.mem_cons.1 hz with rfl | hz
    · obtain ⟨j, hj, rfl⟩ := List.mem_iff_getElem.1 hy
      rw [List.getElem_take]
      rw [List.length_take] at hj
      exact dueK_lt ls z.2.2.1 j (by omega) (by omega)
    · exact p3 y hy z hz
theorem Let.ins {m : Nat} {lo hi : Int} {ls : List (Int × Int × Int × ByteArray)} (h : Let m lo hi ls) (x : (Int × Int × Int × ByteArray)) (h1 : glB m x = true) (h2 : lo ≤ x.2.2.1) (h3 : x.2.2.1 ≤ hi) : Let m lo hi (insL ls x) :=
  ⟨insL_asc h.1 x, fun y hy => by
    rcases mem_insL.1 hy with rfl | hy
    · exact ⟨h1, h2, h3⟩
    · exact h.2 y hy⟩
theorem Let.out {m : Nat} {lo hi : Int} {ls : List (Int × Int × Int × ByteArray)} (h : Let m lo hi ls) (i : Nat) : Let m lo hi (outL ls i) := ⟨outL_asc h.1 i, fun y hy => h.2 y (mem_outL hy)⟩
theorem Let.sub {m : Nat} {lo hi : Int} {ls ls' : List (Int × Int × Int × ByteArray)} (h : Let m lo hi ls) (hs : ls'.Sublist ls) : Let m lo hi ls' := ⟨h.1.sublist hs, fun y hy => h.2 y (hs.mem hy)⟩
/-- Behind a delivery all letters are due later. -/
theorem Let.rest {m : Nat} {lo hi t : Int} {ls : List (Int × Int × Int × ByteArray)} (h : Let m lo hi ls) : Let m (t + 1) hi (ls.drop (dueK ls t)) := by
  refine ⟨h.1.sublist (List.drop_sublist _ _), fun y hy => ?_⟩
  obtain ⟨a, b, c⟩ := h.2 y (List.mem_of_mem_drop hy)
  refine ⟨a, ?_, c⟩
  obtain ⟨j, hj, rfl⟩ := List.mem_iff_getElem.1 hy
  rw [List.getElem_drop]
  have := dueK_mono h.1 t (dueK ls t + j) (by rw [List.length_drop] at hj; omega) (by omega)
  omega
/-- What is delivered is due by then. -/
theorem take_due {ls : List (Int × Int × Int × ByteArray)} {t : Int} (k : Nat) (h : k < (ls.take (dueK ls t)).length) : ((ls.take (dueK ls t))[k]).2.2.1 ≤ t := by
  rw [List.getElem_take]
  rw [List.length_take] at h
  exact dueK_lt ls t k (by omega) (by omega)
theorem cut_len (ls : List (Int × Int × Int × ByteArray)) (t : Int) : (ls.take (dueK ls t)).length + (ls.drop (dueK ls t)).length = ls.length := by
  rw [List.length_take, List.length_drop]; have := dueK_le ls t; omega
/-- All letters due between a time and an earlier one: there are none. -/
theorem Let.none {m : Nat} {lo hi : Int} {ls : List (Int × Int × Int × ByteArray)} (h : Let m lo hi ls) (hh : hi < lo) : ls = [] := by
  cases ls with
  | nil => rfl
  | cons x l => obtain ⟨_, b, c⟩ := h.2 x (by simp); omega

/-- The state of a run: the time, the letters under way, their bounds. -/
structure Run (t : Int) (is : List Int) (far : Int) (ls : List (Int × Int × Int × ByteArray)) (lo hi : Int) : Prop where
  now : 0 ≤ t ∧ t ≤ 99999
  homes : homesB is = true
  far' : 0 ≤ far ∧ far ≤ 5
  few : ls.length ≤ 59
  lets : Let is.length lo hi ls
  lo0 : 0 ≤ lo
  hi0 : hi ≤ 100200
section
variable {t far lo hi : Int} {is : List Int} {ls : List (Int × Int × Int × ByteArray)}
theorem Run.good (h : Run t is far ls lo hi) : netB t is far ls = true :=
  net_mk (inB_mk (by have := h.now; omega)) h.homes (inB_mk (by have := h.far'; omega)) (by have := h.few; omega) h.lets h.lo0
theorem Run.tick (h : Run t is far ls lo hi) : tickA t is far ls = (t + 1, is, far, ls, true) := by
  unfold tickA
  rw [if_pos h.good]
  unfold ifA
  rw [if_pos (net_mk (inB_mk (by have := h.now; omega)) h.homes (inB_mk (by have := h.far'; omega)) (by have := h.few; omega) h.lets h.lo0)]
theorem Run.tock (h : Run t is far ls lo hi) (ht : t ≤ 99998) : Run (t + 1) is far ls lo hi := ⟨by have := h.now; omega, h.homes, h.far', h.few, h.lets, h.lo0, h.hi0⟩
theorem Run.dlv (h : Run t is far ls lo hi) : dlvA t is far ls = ((t, is, far, ls.drop (dueK ls t), true), ls.take (dueK ls t)) := by
  unfold dlvA; rw [if_pos h.good]
theorem Run.left (h : Run t is far ls lo hi) : Run t is far (ls.drop (dueK ls t)) (t + 1) hi :=
  ⟨h.now, h.homes, h.far', by rw [List.length_drop]; have := h.few; omega, h.lets.rest, by have := h.now; omega, h.hi0⟩
theorem Run.trip (h : Run t is far ls lo hi) (a b : Int) : 1 ≤ tripI is far a b ∧ tripI is far a b ≤ 11 := by
  obtain ⟨_, _, hh⟩ := homesB_true h.homes
  have h3 := getD_in hh a.toNat
  have h4 := getD_in hh b.toNat
  have h0 := h.far'
  refine ⟨tripI_low h0.1, ?_⟩
  unfold tripI
  have h5 : ((is.getD a.toNat 0 - is.getD b.toNat 0).natAbs : Int) ≤ 2 := by omega
  have h6 : far * ((is.getD a.toNat 0 - is.getD b.toNat 0).natAbs : Int) ≤ 5 * 2 := Int.mul_le_mul h0.2 h5 (by omega) (by omega)
  omega
theorem Run.sent (h : Run t is far ls lo hi) (a b : Int) (s : ByteArray) (hs : s.size = 1) (ha : nodeB is.length a = true) (hb : nodeB is.length b = true) (hab : a ≠ b) (hlo : lo ≤ t + 1) (hhi : t + 11 ≤ hi) (hf : ls.length ≤ 58) :
    sendA t is far ls a b s = (t, is, far, insL ls (a, b, t + tripI is far a b, s), true) ∧ Run t is far (insL ls (a, b, t + tripI is far a b, s)) lo hi := by
  have ht := h.trip a b
  have h0 := h.now
  have h9 := h.hi0
  have hR : Run t is far (insL ls (a, b, t + tripI is far a b, s)) lo hi := ⟨h.now, h.homes, h.far', by rw [insL_len]; omega, h.lets.ins _ (by
    unfold glB
    simp only
    rw [ha, hb, decide_eq_true hab, decide_eq_true (by omega), decide_eq_true (by omega), hs]
    rfl) (by simp only; omega) (by simp only; omega), h.lo0, h.hi0⟩
  refine ⟨?_, hR⟩
  unfold sendA
  rw [if_pos (by rw [h.good, ha, hb, decide_eq_true hab]; rfl)]
  unfold ifA
  rw [if_pos hR.good]
theorem Run.trips (h : Run t is far ls lo hi) (a b : Int) (ha : nodeB is.length a = true) (hb : nodeB is.length b = true) : tripA t is far ls a b = (tripI is far a b, true) := by
  unfold tripA
  rw [if_pos (by rw [h.good, ha, hb]; rfl)]
end
end Go.Proofs.Ytojplmjoipjabaa.Fs
