/-
  A write put into a rising list of writes, in the place of one of its key: plain mathematics. Nothing of the program.
-/
import Derived.Test.YtohkpcgekoipbaaKeysM
namespace Go.Proofs.Ytohkpcgekoipbaa
open Go CM
set_option linter.unusedVariables false

def putW : List (ByteArray × ByteArray × Bool) → (ByteArray × ByteArray × Bool) → List (ByteArray × ByteArray × Bool)
  | [], x => [x]
  | a :: l, x => if kLt a.1 x.1 then a :: putW l x else if a.1 = x.1 then x :: l else x :: a :: l
theorem putW_new {l : List (ByteArray × ByteArray × Bool)} {x : (ByteArray × ByteArray × Bool)} (i : Nat) (hi : i ≤ l.length) (hlo : ∀ q (h : q < l.length), q < i → kLt l[q].1 x.1 = true) (hhi : ∀ (h : i < l.length), kLt l[i].1 x.1 = false ∧ l[i].1 ≠ x.1) : putW l x = l.take i ++ x :: l.drop i := by
  induction l generalizing i with
  | nil =>
    have : i = 0 := by simpa using hi
    subst this; rfl
  | cons a l ih =>
    cases i with
    | zero =>
      obtain ⟨h1, h2⟩ := hhi (by simp)
      simp only [List.getElem_cons_zero] at h1 h2
      simp [putW, h1, h2]
    | succ i =>
      have h0 := hlo 0 (by simp) (by omega)
      simp only [List.getElem_cons_zero] at h0
      have := ih i (by simpa using hi) (fun q h hq => by have := hlo (q + 1) (by simpa using h) (by omega); simpa using this) (fun h => by have := hhi (by simpa using h); simpa using this)
      simp [putW, h0, this]
theorem putW_old {l : List (ByteArray × ByteArray × Bool)} {x : (ByteArray × ByteArray × Bool)} (i : Nat) (hi : i < l.length) (hlo : ∀ q (h : q < l.length), q < i → kLt l[q].1 x.1 = true) (he : l[i].1 = x.1) : putW l x = l.set i x := by
  induction l generalizing i with
  | nil => simp at hi
  | cons a l ih =>
    cases i with
    | zero =>
      simp only [List.getElem_cons_zero] at he
      have h1 : kLt a.1 x.1 = false := by
        cases e : kLt a.1 x.1 with
        | false => rfl
        | true => exact absurd he (kLt_ne e)
      show (if kLt a.1 x.1 then a :: putW l x else if a.1 = x.1 then x :: l else x :: a :: l) = x :: l
      rw [h1, if_neg (by simp), if_pos he]
    | succ i =>
      have h0 := hlo 0 (by simp) (by omega)
      simp only [List.getElem_cons_zero] at h0
      have := ih i (by simpa using hi) (fun q h hq => by have := hlo (q + 1) (by simpa using h) (by omega); simpa using this) (by simpa using he)
      simp [putW, h0, this]
theorem putW_mem {l : List (ByteArray × ByteArray × Bool)} {x y : (ByteArray × ByteArray × Bool)} (h : y ∈ putW l x) : y = x ∨ y ∈ l := by
  induction l with
  | nil => simpa [putW] using h
  | cons a l ih =>
    unfold putW at h
    split at h
    · rcases List.mem_cons.1 h with h | h
      · exact .inr (by simp [h])
      · rcases ih h with h | h
        · exact .inl h
        · exact .inr (List.mem_cons_of_mem _ h)
    · split at h
      · rcases List.mem_cons.1 h with h | h
        · exact .inl h
        · exact .inr (List.mem_cons_of_mem _ h)
      · rcases List.mem_cons.1 h with h | h
        · exact .inl h
        · exact .inr h
theorem putW_len (l : List (ByteArray × ByteArray × Bool)) (x : (ByteArray × ByteArray × Bool)) : (putW l x).length ≤ l.length + 1 := by
  induction l with
  | nil => simp [putW]
  | cons a l ih =>
    unfold putW
    split
    · simpa using ih
    · split <;> simp
theorem wise {l : List (ByteArray × ByteArray × Bool)} : upB wLt l = true ↔ l.Pairwise fun a b => wLt a b = true := upB_iff wLt wLt_trans l
theorem putW_up {l : List (ByteArray × ByteArray × Bool)} {x : (ByteArray × ByteArray × Bool)} (h : upB wLt l = true) : upB wLt (putW l x) = true := by
  rw [wise] at h ⊢
  induction l with
  | nil => simp [putW]
  | cons a l ih =>
    rw [List.pairwise_cons] at h
    unfold putW
    by_cases h1 : kLt a.1 x.1 = true
    · rw [if_pos h1, List.pairwise_cons]
      refine ⟨fun b hb => ?_, ih h.2⟩
      rcases putW_mem hb with rfl | hb
      · exact h1
      · exact h.1 b hb
    · rw [if_neg h1]
      by_cases h2 : a.1 = x.1
      · rw [if_pos h2, List.pairwise_cons]
        refine ⟨fun b hb => ?_, h.2⟩
        have := h.1 b hb
        unfold wLt at this ⊢
        rwa [← h2]
      · rw [if_neg h2, List.pairwise_cons, List.pairwise_cons]
        have h3 : kLt x.1 a.1 = true := kLt_total h2 (by simpa using h1)
        refine ⟨fun b hb => ?_, h⟩
        rcases List.mem_cons.1 hb with rfl | hb
        · exact h3
        · exact wLt_trans _ _ _ (show wLt x a = true from h3) (h.1 b hb)
def putWs (rows ws : List (ByteArray × ByteArray × Bool)) : List (ByteArray × ByteArray × Bool) := ws.foldl putW rows
theorem putWs_succ {rows ws : List (ByteArray × ByteArray × Bool)} {k : Nat} (h : k < ws.length) : putWs rows (ws.take (k + 1)) = putW (putWs rows (ws.take k)) ws[k] := by
  unfold putWs
  rw [List.take_succ_eq_append_getElem h, List.foldl_append]
  rfl
theorem putWs_up {rows ws : List (ByteArray × ByteArray × Bool)} (h : upB wLt rows = true) : upB wLt (putWs rows ws) = true := by
  induction ws generalizing rows with
  | nil => exact h
  | cons a l ih => exact ih (putW_up h)
theorem putWs_len (rows ws : List (ByteArray × ByteArray × Bool)) : (putWs rows ws).length ≤ rows.length + ws.length := by
  induction ws generalizing rows with
  | nil => simp [putWs]
  | cons a l ih =>
    have h1 := ih (putW rows a)
    have h2 := putW_len rows a
    simp only [putWs, List.foldl_cons, List.length_cons] at h1 ⊢
    omega
theorem putWs_mem {rows ws : List (ByteArray × ByteArray × Bool)} {y : (ByteArray × ByteArray × Bool)} (h : y ∈ putWs rows ws) : y ∈ ws ∨ y ∈ rows := by
  induction ws generalizing rows with
  | nil => exact .inr h
  | cons a l ih =>
    rcases ih h with h1 | h1
    · exact .inl (List.mem_cons_of_mem _ h1)
    · rcases putW_mem h1 with rfl | h1
      · exact .inl (by simp)
      · exact .inr h1
/-- The writes that are no deletions. -/
def liveW (l : List (ByteArray × ByteArray × Bool)) : List (ByteArray × ByteArray × Bool) := l.filter fun x => !x.2.2
def putRows (rows ws : List (ByteArray × ByteArray × Bool)) : List (ByteArray × ByteArray × Bool) := liveW (putWs rows ws)
theorem liveW_len (l : List (ByteArray × ByteArray × Bool)) : (liveW l).length ≤ l.length := List.length_filter_le _ _
theorem liveW_up {l : List (ByteArray × ByteArray × Bool)} (h : upB wLt l = true) : upB wLt (liveW l) = true := by
  rw [wise] at h ⊢
  exact h.filter _
theorem liveW_mem {l : List (ByteArray × ByteArray × Bool)} {y : (ByteArray × ByteArray × Bool)} (h : y ∈ liveW l) : y ∈ l ∧ y.2.2 = false := by
  have := List.mem_filter.1 h
  exact ⟨this.1, by simpa using this.2⟩
theorem liveW_succ {l : List (ByteArray × ByteArray × Bool)} {k : Nat} (h : k < l.length) : liveW (l.take (k + 1)) = liveW (l.take k) ++ (if l[k].2.2 then [] else [l[k]]) := by
  unfold liveW
  rw [List.take_succ_eq_append_getElem h, List.filter_append]
  cases hg : l[k].2.2 <;> simp [hg]
/-- Rows: writes that are no deletions. -/
def noneGone (l : List (ByteArray × ByteArray × Bool)) : Bool := l.all fun x => !x.2.2
def rowsB (l : List (ByteArray × ByteArray × Bool)) : Bool := noneGone l && wB l
theorem noneGone_live (l : List (ByteArray × ByteArray × Bool)) : noneGone (liveW l) = true := by
  unfold noneGone
  rw [List.all_eq_true]
  intro x hx
  simp [(liveW_mem hx).2]
theorem live_none {l : List (ByteArray × ByteArray × Bool)} (h : noneGone l = true) : liveW l = l := by
  unfold noneGone at h
  rw [List.all_eq_true] at h
  exact List.filter_eq_self.2 h
theorem rows_live (l : List (ByteArray × ByteArray × Bool)) : rowsB (liveW l) = wB (liveW l) := by unfold rowsB; rw [noneGone_live, Bool.true_and]
theorem wsmall_put {rows ws : List (ByteArray × ByteArray × Bool)} (h1 : WSmall rows) (h2 : WSmall ws) (h3 : rows.length ≤ 1000) (h4 : ws.length ≤ 1000) : WSmall (putWs rows ws) := by
  refine ⟨by have := putWs_len rows ws; omega, fun x hx => ?_⟩
  rcases putWs_mem hx with h | h
  · exact h2.2 x h
  · exact h1.2 x h
theorem wsmall_live {l : List (ByteArray × ByteArray × Bool)} (h : WSmall l) : WSmall (liveW l) := ⟨Nat.le_trans (liveW_len l) h.1, fun x hx => h.2 x (liveW_mem hx).1⟩
theorem wB_len {l : List (ByteArray × ByteArray × Bool)} (h : wB l = true) : l.length ≤ 24 ∧ upB wLt l = true := by
  have := writesB_of (kB := keyB) (vB := valB) h
  exact ⟨this.2.2, this.2.1⟩
/-- Looking for a key from the front, as one looks by halves. -/
theorem find_unique {l : List (ByteArray × ByteArray × Bool)} {key : ByteArray} {i : Nat} {f : Bool} (h : i ≤ l.length ∧ (∀ q (h : q < (l.map Prod.fst).length), q < i → kLt (l.map Prod.fst)[q] key = true) ∧ (∀ q (h : q < (l.map Prod.fst).length), i ≤ q → kLt (l.map Prod.fst)[q] key = false) ∧ (f = true ↔ ∃ h : i < (l.map Prod.fst).length, (l.map Prod.fst)[i] = key)) (x : (ByteArray × ByteArray × Bool)) (hx : x.1 = key) :
    (f = true → ∃ h : i < l.length, l[i].1 = key ∧ putW l x = l.set i x) ∧ (f = false → putW l x = l.take i ++ x :: l.drop i) := by
  obtain ⟨h1, h2, h3, h4⟩ := h
  have hlo : ∀ q (h : q < l.length), q < i → kLt l[q].1 x.1 = true := fun q h hq => by
    have := h2 q (by simpa using h) hq
    rw [List.getElem_map] at this
    rw [hx]; exact this
  constructor
  · intro hf
    obtain ⟨h5, h6⟩ := h4.1 hf
    rw [List.getElem_map] at h6
    have h7 : i < l.length := by simpa using h5
    exact ⟨h7, h6, putW_old i h7 hlo (by rw [hx]; exact h6)⟩
  · intro hf
    refine putW_new i h1 hlo (fun h => ⟨?_, fun e => ?_⟩)
    · have := h3 i (by simpa using h) (Nat.le_refl _)
      rw [List.getElem_map] at this
      rw [hx]; exact this
    · have : f = true := h4.2 ⟨by simpa using h, by rw [List.getElem_map, ← hx]; exact e⟩
      rw [hf] at this; cases this
end Go.Proofs.Ytohkpcgekoipbaa
