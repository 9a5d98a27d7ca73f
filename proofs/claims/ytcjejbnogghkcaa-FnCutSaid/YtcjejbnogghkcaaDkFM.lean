/-
  Plain mathematics: what a crash leaves of frames: the whole ones are read, a torn or incomplete one is not. No Go in sight; no condition.
-/
import Derived.Test.YtcjejbnogghkcaaDk5
namespace Go.Proofs.Ytcjejbnogghkcaa.Dk
open Go.RowKit C1
set_option linter.unusedVariables false

theorem inv_ne (c : UInt8) : c ≠ 255 - c := by
  intro h
  have h1 := congrArg (fun x : UInt8 => (x.toNat : Int)) h
  simp only [inv_int] at h1
  omega
theorem fallL_zero (l : List UInt8) (torn : Bool) : fallL l 0 torn = [] := by simp [fallL]
theorem fallL_left (X Y : List UInt8) (m : Nat) (torn : Bool) (h : m ≤ X.length) : fallL (X ++ Y) m torn = fallL X m torn := by
  unfold fallL
  rw [List.take_append_of_le_length h]
theorem fallL_app (X Y : List UInt8) (m : Nat) (torn : Bool) (h : X.length ≤ m) (h' : ¬ (torn = true ∧ 0 < m ∧ m = X.length)) : fallL (X ++ Y) m torn = X ++ fallL Y (m - X.length) torn := by
  have ht : (X ++ Y).take m = X ++ Y.take (m - X.length) := by rw [List.take_append, List.take_of_length_le h]
  unfold fallL
  rw [ht]
  by_cases hc : torn = true ∧ 0 < m
  · have hlt : X.length < m := by
      rcases Nat.lt_or_ge X.length m with h1 | h1
      · exact h1
      · exact absurd ⟨hc.1, hc.2, by omega⟩ h'
    rw [if_pos hc, if_pos ⟨hc.1, by omega⟩, List.set_append_right _ _ (by omega)]
    congr 2
    · omega
    · rw [List.getD, List.getElem?_append_right (by omega), List.getD]
      congr 3
      omega
  · rw [if_neg hc, if_neg (fun hh => hc ⟨hh.1, by omega⟩)]

theorem frm_small (s : ByteArray) (hs : s.size ≤ 100) : (frm s).data.toList = UInt8.ofNat s.size :: (s.data.toList ++ three (M.sumL s.data.toList)) := by
  rw [frm_list]
  unfold M.numB
  rw [M.numF_small 9 s.size (by omega)]
  rfl
/-- A frame that is torn, or that lacks its end, is none. -/
theorem torn_none {b s : ByteArray} {q m : Nat} {torn : Bool} (hs : s.size ≤ 100) (h : b.data.toList.drop q = fallL (frm s).data.toList m torn) (hq : q ≤ b.size) (h0 : 0 < m) (hm : m < (frm s).size ∨ (m = (frm s).size ∧ torn = true)) : fread b q = none := by
  have hfl : (frm s).data.toList.length = (frm s).size := data_len _
  have hsl : s.data.toList.length = s.size := data_len _
  have hF := frm_small s hs
  have hfs : (frm s).size = s.size + 4 := by rw [← hfl, hF]; simp [three_len]
  have hlen := fallL_len (frm s).data.toList m torn (by omega)
  have hbl : b.size - q = m := by
    have := congrArg List.length h
    rw [List.length_drop, data_len, hlen] at this
    exact this
  have hn1 : M.numB s.size = [UInt8.ofNat s.size] := M.numF_small 9 s.size (by omega)
  have hx : ∀ rest, b.data.toList.drop q = UInt8.ofNat s.size :: rest → M.readNum b.data.toList q = (s.size, q + 1, true) := fun rest e => by
    unfold M.readNum
    have := M.read_num s.size q rest (by omega)
    rw [hn1] at this
    rw [e]
    exact this
  rcases Nat.eq_or_lt_of_le h0 with h1 | h1
  · obtain rfl : m = 1 := h1.symm
    cases torn with
    | true =>
      have hd : b.data.toList.drop q = [255 - UInt8.ofNat s.size] := by rw [h, hF]; simp [fallL]
      apply fread_none
      have hr : M.readNum b.data.toList q = (0, 0, false) := by
        unfold M.readNum
        rw [hd]
        refine M.read_end _ q 1 (fun j hj => ?_) (by omega) (by simp) (.inr (by simp))
        obtain rfl : j = 0 := by omega
        have h1 := inv_int (UInt8.ofNat s.size)
        have h2 : (UInt8.ofNat s.size).toNat = s.size := by simp [UInt8.toNat_ofNat']; omega
        simp only [List.getD, List.getElem?_cons_zero, Option.getD_some]
        omega
      rw [hr]
    | false =>
      have hd : b.data.toList.drop q = UInt8.ofNat s.size :: [] := by rw [h, hF]; simp [fallL]
      exact fread_no (hx _ hd) (fun ⟨_, h2, _⟩ => by omega)
  · obtain ⟨p, rfl⟩ : ∃ p, m = p + 2 := ⟨m - 2, by omega⟩
    have hd : ∃ rest, b.data.toList.drop q = UInt8.ofNat s.size :: rest := by
      rw [h, hF]
      unfold fallL
      split
      · exact ⟨_, by rw [List.take_succ_cons]; rfl⟩
      · exact ⟨_, by rw [List.take_succ_cons]⟩
    obtain ⟨rest, hd⟩ := hd
    refine fread_no (hx _ hd) (fun ⟨_, h2, h3⟩ => ?_)
    rcases hm with hm | ⟨hm, rfl⟩
    · omega
    · have hps : p + 2 = s.size + 4 := by omega
      obtain ⟨a, b', c, h3'⟩ : ∃ a b c, three (M.sumL s.data.toList) = [a, b, c] := ⟨_, _, _, rfl⟩
      have hall : b.data.toList.drop q = UInt8.ofNat s.size :: (s.data.toList ++ [a, b', 255 - c]) := by
        rw [h, hF, hps, h3']
        unfold fallL
        rw [if_pos ⟨rfl, by omega⟩, List.take_of_length_le (by simp [hsl])]
        have e : s.size + 4 - 1 = (s.size + 2) + 1 := by omega
        rw [e, List.set_cons_succ, List.set_append_right _ _ (by omega), List.getD, List.getElem?_cons_succ, List.getElem?_append_right (by omega), hsl, show s.size + 2 - s.size = 2 by omega]
        rfl
      have d1 : b.data.toList.drop (q + 1) = s.data.toList ++ [a, b', 255 - c] := by rw [← List.drop_drop, hall]; rfl
      have d2 : b.data.toList.drop (q + 1 + s.size) = [a, b', 255 - c] := by
        rw [← List.drop_drop, d1, List.drop_append_of_le_length (by omega), List.drop_of_length_le (by omega), List.nil_append]
      rw [d1, d2, List.take_append_of_le_length (by omega), List.take_of_length_le (by omega), h3'] at h3
      simp only [List.take_succ_cons, List.take_zero] at h3
      injection h3 with _ h3
      injection h3 with _ h3
      injection h3 with h3 _
      exact inv_ne c h3

/-- The length of the first j frames. -/
def fend (D : List ByteArray) (j : Nat) : Nat := (frmL (D.take j)).length
theorem fend_zero (D : List ByteArray) : fend D 0 = 0 := rfl
theorem fend_succ (D : List ByteArray) (j : Nat) (h : j < D.length) : fend D (j + 1) = fend D j + (frm D[j]).size := by
  unfold fend
  rw [List.take_succ_eq_append_getElem h, frmL_app, List.length_append]
  simp [frmL]
theorem fend_mono (D : List ByteArray) (i j : Nat) (h : i ≤ j) (hj : j ≤ D.length) : fend D i ≤ fend D j := by
  induction j with
  | zero => obtain rfl : i = 0 := by omega
            exact Nat.le_refl _
  | succ j ih =>
    rcases Nat.eq_or_lt_of_le h with rfl | h1
    · exact Nat.le_refl _
    · rw [fend_succ D j (by omega)]
      have := ih (by omega) (by omega)
      omega
theorem fend_all (D : List ByteArray) : fend D D.length = (frmL D).length := by unfold fend; rw [List.take_length]
/-- Frame j lies whole within m bytes, the last of which is torn or not. -/
def wholeB (D : List ByteArray) (m : Nat) (torn : Bool) (j : Nat) : Bool := decide (fend D (j + 1) < m) || (decide (fend D (j + 1) = m) && (!torn || decide (m = 0)))

/-- What is read of frames of which m bytes are left. -/
theorem fall_reads (T D : List ByteArray) (m u : Nat) (torn : Bool) (b : ByteArray) (hT : ∀ s ∈ T, s.size ≤ 100) (hD : ∀ s ∈ D, s.size ≤ 100) (hb : b.data.toList = frmL T ++ fallL (frmL D) m torn) (hm : m ≤ (frmL D).length)
    (hu : u ≤ D.length) (hu1 : 0 < u → wholeB D m torn (u - 1) = true) (hu2 : u < D.length → wholeB D m torn u = false) : (frs b b.size 0).1 = T ++ D.take u := by
  have hle : fend D u ≤ m ∧ ¬ (torn = true ∧ 0 < m ∧ m = fend D u) := by
    rcases Nat.eq_zero_or_pos u with h0 | h0
    · subst h0; rw [fend_zero]; exact ⟨by omega, fun h => by omega⟩
    · have := hu1 h0
      unfold wholeB at this
      rw [show u - 1 + 1 = u by omega] at this
      simp only [Bool.or_eq_true, Bool.and_eq_true, decide_eq_true_eq, Bool.not_eq_true'] at this
      rcases this with h | ⟨h, h' | h'⟩
      · exact ⟨by omega, fun hh => by omega⟩
      · exact ⟨by omega, fun hh => by rw [h'] at hh; cases hh.1⟩
      · exact ⟨by omega, fun hh => by omega⟩
  have hsplit : frmL D = frmL (D.take u) ++ frmL (D.drop u) := by rw [← frmL_app, List.take_append_drop]
  have hfd : (frmL (D.take u)).length = fend D u := rfl
  have hb2 : b.data.toList = frmL (T ++ D.take u) ++ fallL (frmL (D.drop u)) (m - fend D u) torn := by
    rw [hb, hsplit, fallL_app _ _ _ _ (by rw [hfd]; exact hle.1) (by rw [hfd]; exact hle.2), hfd, frmL_app, List.append_assoc]
  have hsz : b.size = (frmL (T ++ D.take u)).length + (fallL (frmL (D.drop u)) (m - fend D u) torn).length := by
    rw [← data_len, hb2, List.length_append]
  have hnone : fread b (0 + (frmL (T ++ D.take u)).length) = none := by
    rw [Nat.zero_add]
    have hdr : b.data.toList.drop (frmL (T ++ D.take u)).length = fallL (frmL (D.drop u)) (m - fend D u) torn := by
      rw [hb2, List.drop_append_of_le_length (Nat.le_refl _), List.drop_of_length_le (Nat.le_refl _), List.nil_append]
    rcases Nat.eq_zero_or_pos (m - fend D u) with h0 | h0
    · rw [h0, fallL_zero] at hsz
      exact fread_end (by rw [hsz]; simp)
    · have hul : u < D.length := by
        rcases Nat.lt_or_ge u D.length with h1 | h1
        · exact h1
        · have h2 : fend D u = (frmL D).length := by unfold fend; rw [List.take_of_length_le h1]
          omega
      have hdc : D.drop u = D[u] :: D.drop (u + 1) := List.drop_eq_getElem_cons hul
      have hw := hu2 hul
      unfold wholeB at hw
      rw [fend_succ D u hul] at hw
      simp only [Bool.or_eq_false_iff, Bool.and_eq_false_iff, decide_eq_false_iff_not, Bool.not_eq_false'] at hw
      have hcase : m - fend D u < (frm D[u]).size ∨ (m - fend D u = (frm D[u]).size ∧ torn = true) := by
        rcases Nat.lt_or_ge (m - fend D u) (frm D[u]).size with h1 | h1
        · exact .inl h1
        · right
          have he : fend D u + (frm D[u]).size = m := by omega
          refine ⟨by omega, ?_⟩
          rcases hw.2 with h2 | ⟨h2, _⟩
          · exact absurd he h2
          · exact h2
      refine torn_none (s := D[u]) (hD _ (List.getElem_mem hul)) ?_ (by rw [hsz]; omega) h0 hcase
      rw [hdr, hdc, frmL_cons, fallL_left _ _ _ _ (by rw [data_len]; omega)]
  have h1 := frs_frm (b := b) (T ++ D.take u) (b.size) 0 (fallL (frmL (D.drop u)) (m - fend D u) torn) (fun s hs => by
    rcases List.mem_append.1 hs with h | h
    · have := hT s h; omega
    · have := hD s (List.mem_of_mem_take h); omega) (by rw [List.drop_zero]; exact hb2) (Nat.zero_le _)
  rw [frs_none hnone] at h1
  have h2 := (frs_enough (b := b) b.size 0 ((T ++ D.take u).length + b.size) (Nat.zero_le _) (by omega) (by omega)).1
  rw [h2, h1]
  simp
end Go.Proofs.Ytcjejbnogghkcaa.Dk
