/-
  Plain mathematics of chapter 6: a frame's bytes, reading a frame, the frames of a text. No Go in sight; no condition.
-/
import Derived.Test.YtkhndofplebcaaaC1
namespace Go.Proofs.Ytkhndofplebcaaa.Dk
open Go.RowKit C1

/-- The bytes of a frame. -/
def frm (s : ByteArray) : ByteArray := ⟨(M.numB s.size ++ sealed s.data.toList).toArray⟩
theorem three_len (n : Nat) : (three n).length = 3 := rfl
theorem sealed_len (l : List UInt8) : (sealed l).length = l.length + 3 := by unfold sealed; rw [List.length_append, three_len]
theorem frm_list (s : ByteArray) : (frm s).data.toList = M.numB s.size ++ sealed s.data.toList := by unfold frm; simp
theorem frm_size (s : ByteArray) : (frm s).size = (M.numB s.size).length + s.size + 3 := by
  rw [← data_len, frm_list, List.length_append, sealed_len, data_len]; omega
theorem frm_bound (s : ByteArray) : s.size + 4 ≤ (frm s).size ∧ (frm s).size ≤ s.size + 13 := by
  have := M.numB_len s.size
  have := frm_size s
  omega
theorem frm_two (s : ByteArray) (h : s.size ≤ 700) : (frm s).size ≤ s.size + 5 := by
  have := M.numF_len_fit 1 9 s.size (by unfold M.Fits; omega)
  have e : (M.numB s.size).length ≤ 1 + 1 := this
  have := frm_size s
  omega

/-- What a reader finds at q: the bytes, and the offset behind them. -/
def fread (b : ByteArray) (q : Nat) : Option (ByteArray × Nat) :=
  if (M.readNum b.data.toList q).2.2 = true ∧ (M.readNum b.data.toList q).1 ≤ 700 ∧ (M.readNum b.data.toList q).2.1 + (M.readNum b.data.toList q).1 + 3 ≤ b.size ∧ three (M.sumL ((b.data.toList.drop (M.readNum b.data.toList q).2.1).take (M.readNum b.data.toList q).1)) = (b.data.toList.drop ((M.readNum b.data.toList q).2.1 + (M.readNum b.data.toList q).1)).take 3 then
    some (b.extract (M.readNum b.data.toList q).2.1 ((M.readNum b.data.toList q).2.1 + (M.readNum b.data.toList q).1), (M.readNum b.data.toList q).2.1 + (M.readNum b.data.toList q).1 + 3)
  else none

theorem fread_yes {b : ByteArray} {q n x : Nat} (h : M.readNum b.data.toList q = (n, x, true)) (h1 : n ≤ 700) (h2 : x + n + 3 ≤ b.size) (h3 : three (M.sumL ((b.data.toList.drop x).take n)) = (b.data.toList.drop (x + n)).take 3) : fread b q = some (b.extract x (x + n), x + n + 3) := by
  unfold fread
  rw [h]
  exact if_pos ⟨rfl, h1, h2, h3⟩
theorem fread_no {b : ByteArray} {q n x : Nat} (h : M.readNum b.data.toList q = (n, x, true)) (h1 : ¬ (n ≤ 700 ∧ x + n + 3 ≤ b.size ∧ three (M.sumL ((b.data.toList.drop x).take n)) = (b.data.toList.drop (x + n)).take 3)) : fread b q = none := by
  unfold fread
  rw [h]
  exact if_neg fun ⟨_, a⟩ => h1 a
theorem fread_none {b : ByteArray} {q : Nat} (h : (M.readNum b.data.toList q).2.2 = false) : fread b q = none := by
  unfold fread
  exact if_neg fun ⟨a, _⟩ => by rw [h] at a; cases a
/-- What a frame that was found tells. -/
theorem fread_some {b s : ByteArray} {q y : Nat} (h : fread b q = some (s, y)) : ∃ n x, M.readNum b.data.toList q = (n, x, true) ∧ n ≤ 700 ∧ x + n + 3 ≤ b.size ∧ three (M.sumL ((b.data.toList.drop x).take n)) = (b.data.toList.drop (x + n)).take 3 ∧ s = b.extract x (x + n) ∧ y = x + n + 3 := by
  rcases hr : M.readNum b.data.toList q with ⟨n, x, ok⟩
  unfold fread at h
  rw [hr] at h
  split at h
  · next hc =>
    obtain ⟨h1, h2, h3, h4⟩ := hc
    simp only at h1 h2 h3 h4
    subst h1
    simp only [Option.some.injEq, Prod.mk.injEq] at h
    exact ⟨n, x, rfl, h2, h3, h4, h.1.symm, h.2.symm⟩
  · cases h

theorem scan_spec (d : List UInt8) (f i k : Nat) (h : M.scan d f i = some k) : i ≤ k ∧ k < i + f ∧ k < d.length ∧ (d.getD k 0).toNat < 128 ∧ ∀ j, i ≤ j → j < k → 128 ≤ (d.getD j 0).toNat := by
  induction f generalizing i with
  | zero => simp [M.scan] at h
  | succ f ih =>
    simp only [M.scan] at h
    split at h
    · split at h
      · simp only [Option.some.injEq] at h
        subst h
        exact ⟨by omega, by omega, by assumption, by assumption, fun j h1 h2 => by omega⟩
      · next hge =>
        obtain ⟨h1, h2, h3, h4, h5⟩ := ih _ h
        refine ⟨by omega, by omega, h3, h4, fun j hj hk => ?_⟩
        rcases Nat.eq_or_lt_of_le hj with rfl | hj
        · omega
        · exact h5 j (by omega) hk
    · cases h
/-- A number that is read has its one form. -/
theorem read_canon {d : List UInt8} {q n x : Nat} (h : M.readAt d q = (n, x, true)) : d.take (x - q) = M.numB n := by
  unfold M.readAt at h
  cases hs : M.scan d 5 0 with
  | none => rw [hs] at h; simp at h
  | some k =>
    rw [hs] at h
    obtain ⟨_, h2, h3, h4, h5⟩ := scan_spec d 5 0 k hs
    simp only at h
    split at h
    · next hc =>
      simp only [Prod.mk.injEq, and_true] at h
      obtain ⟨rfl, rfl⟩ := h
      rw [show q + k + 1 - q = k + 1 by omega]
      exact (M.canon_yes d k (fun j hj => h5 j (Nat.zero_le _) hj) (by omega) h3 h4 hc.2).symm
    · simp at h
theorem readNum_bounds {b : ByteArray} {q n x : Nat} (h : M.readNum b.data.toList q = (n, x, true)) (hq : q ≤ b.size) : n ≤ 1000000000 ∧ q < x ∧ x ≤ b.size := by
  obtain ⟨h1, h2, _, h4⟩ := M.read_bounds _ _ _ _ h
  rw [List.length_drop, data_len] at h4
  omega
theorem ext_list (b : ByteArray) (i j : Nat) : (b.extract i j).data.toList = (b.data.toList.drop i).take (j - i) := Lib.extract_data b i j
theorem take_take_drop {α : Type} (l : List α) (a b : Nat) : l.take a ++ (l.drop a).take b = l.take (a + b) := by
  rw [List.take_add]
/-- The bytes of a frame that was found are those of the frame of what was found. -/
theorem fread_bytes {b s : ByteArray} {q y : Nat} (h : fread b q = some (s, y)) (hq : q ≤ b.size) : s.size ≤ 700 ∧ q < y ∧ y ≤ b.size ∧ b.extract q y = frm s ∧ y = q + (frm s).size := by
  obtain ⟨n, x, hr, h1, h2, h3, rfl, rfl⟩ := fread_some h
  obtain ⟨_, b2, b3⟩ := readNum_bounds hr hq
  have hc := read_canon (d := b.data.toList.drop q) hr
  have hsz : (b.extract x (x + n)).size = n := by rw [ByteArray.size_extract]; omega
  have hsl : (b.extract x (x + n)).data.toList = (b.data.toList.drop x).take n := by rw [ext_list, show x + n - x = n by omega]
  have e : b.extract q (x + n + 3) = frm (b.extract x (x + n)) := by
    apply ByteArray.ext
    apply Array.ext'
    rw [frm_list, ext_list, hsz, hsl]
    unfold sealed
    rw [h3, ← hc, ← List.append_assoc]
    have hdx : (b.data.toList.drop x) = (b.data.toList.drop q).drop (x - q) := by rw [List.drop_drop]; congr 1; omega
    have hdn : (b.data.toList.drop (x + n)) = (b.data.toList.drop q).drop (x - q + n) := by rw [List.drop_drop]; congr 1; omega
    rw [hdx, hdn, take_take_drop, take_take_drop]
    congr 1
    omega
  refine ⟨by omega, by omega, h2, e, ?_⟩
  have := congrArg ByteArray.size e
  rw [ByteArray.size_extract] at this
  omega
/-- A frame that stands at q is found. -/
theorem fread_frm {b s : ByteArray} {q : Nat} {R : List UInt8} (hs : s.size ≤ 700) (h : b.data.toList.drop q = (frm s).data.toList ++ R) (hq : q ≤ b.size) : fread b q = some (s, q + (frm s).size) := by
  have hl : b.size - q = (frm s).size + R.length := by
    have := congrArg List.length h
    rw [List.length_drop, List.length_append, data_len, data_len] at this
    exact this
  have hfs := frm_size s
  have hd : s.data.toList.length = s.size := data_len s
  rw [frm_list] at h
  have hr : M.readNum b.data.toList q = (s.size, q + (M.numB s.size).length, true) := by
    unfold M.readNum
    rw [h, List.append_assoc]
    exact M.read_num s.size q _ (by omega)
  have hx : b.data.toList.drop (q + (M.numB s.size).length) = s.data.toList ++ (three (M.sumL s.data.toList) ++ R) := by
    rw [← List.drop_drop, h, List.append_assoc, List.drop_append_of_le_length (Nat.le_refl _), List.drop_of_length_le (Nat.le_refl _), List.nil_append]
    unfold sealed
    rw [List.append_assoc]
  have hy : b.data.toList.drop (q + (M.numB s.size).length + s.size) = three (M.sumL s.data.toList) ++ R := by
    rw [← List.drop_drop, hx, List.drop_append_of_le_length (by omega), List.drop_of_length_le (by omega), List.nil_append]
  have ht : (b.data.toList.drop (q + (M.numB s.size).length)).take s.size = s.data.toList := by
    rw [hx, List.take_append_of_le_length (by omega), List.take_of_length_le (by omega)]
  rw [fread_yes hr hs (by omega) (by rw [ht, hy, List.take_append_of_le_length (by rw [three_len]; omega), List.take_of_length_le (by rw [three_len]; omega)])]
  congr 2
  · apply ByteArray.ext
    apply Array.ext'
    rw [ext_list, show q + (M.numB s.size).length + s.size - (q + (M.numB s.size).length) = s.size by omega, ht]
  · omega

/-- At most f frames from q on, and the offset behind them. -/
def frs (b : ByteArray) : Nat → Nat → List ByteArray × Nat
  | 0, q => ([], q)
  | f + 1, q => match fread b q with
    | none => ([], q)
    | some (s, y) => (s :: (frs b f y).1, (frs b f y).2)
theorem frs_none {b : ByteArray} {q : Nat} (h : fread b q = none) (f : Nat) : frs b f q = ([], q) := by
  cases f with
  | zero => rfl
  | succ f => simp [frs, h]
theorem frs_some {b s : ByteArray} {q y : Nat} (h : fread b q = some (s, y)) (f : Nat) : frs b (f + 1) q = (s :: (frs b f y).1, (frs b f y).2) := by
  simp [frs, h]
theorem fread_end {b : ByteArray} {q : Nat} (h : b.size ≤ q) : fread b q = none := by
  cases e : fread b q with
  | none => rfl
  | some p =>
    obtain ⟨s, y⟩ := p
    obtain ⟨n, x, hr, _, h2, _⟩ := fread_some e
    have := (M.read_bounds _ _ _ _ hr).2.1
    omega
/-- With fuel for each byte nothing is left unread; more fuel changes nothing. -/
theorem frs_enough {b : ByteArray} (f : Nat) : ∀ q g, q ≤ b.size → b.size - q ≤ f → b.size - q ≤ g → frs b f q = frs b g q ∧ fread b (frs b f q).2 = none := by
  induction f with
  | zero =>
    intro q g hq h1 h2
    have := fread_end (b := b) (q := q) (by omega)
    rw [frs_none this, frs_none this]
    exact ⟨rfl, this⟩
  | succ f ih =>
    intro q g hq h1 h2
    cases e : fread b q with
    | none => rw [frs_none e, frs_none e]; exact ⟨rfl, e⟩
    | some p =>
      obtain ⟨s, y⟩ := p
      obtain ⟨_, hlt, hle, _, _⟩ := fread_bytes e hq
      obtain ⟨g', rfl⟩ : ∃ g', g = g' + 1 := ⟨g - 1, by omega⟩
      obtain ⟨i1, i2⟩ := ih y g' hle (by omega) (by omega)
      rw [frs_some e, frs_some e, i1]
      exact ⟨rfl, i1 ▸ i2⟩
theorem frs_end {b : ByteArray} (f q : Nat) (hq : q ≤ b.size) : q ≤ (frs b f q).2 ∧ (frs b f q).2 ≤ b.size ∧ (frs b f q).1.length ≤ f ∧ q + 4 * (frs b f q).1.length ≤ (frs b f q).2 := by
  induction f generalizing q with
  | zero => simp [frs, hq]
  | succ f ih =>
    cases e : fread b q with
    | none => rw [frs_none e]; simp [hq]
    | some p =>
      obtain ⟨s, y⟩ := p
      obtain ⟨_, hlt, hle, _, hy⟩ := fread_bytes e hq
      rw [frs_some e]
      have := ih y hle
      have := (frm_bound s).1
      simp only [List.length_cons]
      omega
theorem frs_sizes {b : ByteArray} (f q : Nat) (hq : q ≤ b.size) : ∀ s ∈ (frs b f q).1, s.size ≤ 700 := by
  induction f generalizing q with
  | zero => simp [frs]
  | succ f ih =>
    cases e : fread b q with
    | none => rw [frs_none e]; simp
    | some p =>
      obtain ⟨s, y⟩ := p
      obtain ⟨h7, hlt, hle, _, hy⟩ := fread_bytes e hq
      rw [frs_some e]
      intro t ht
      rcases List.mem_cons.1 ht with rfl | ht
      · exact h7
      · exact ih y hle t ht
/-- All bytes of several frames. -/
def frmL (l : List ByteArray) : List UInt8 := (l.map fun s => (frm s).data.toList).flatten
theorem frmL_nil : frmL [] = [] := rfl
theorem frmL_cons (s : ByteArray) (l : List ByteArray) : frmL (s :: l) = (frm s).data.toList ++ frmL l := rfl
theorem frmL_app (l m : List ByteArray) : frmL (l ++ m) = frmL l ++ frmL m := by simp [frmL]
/-- The bytes of the frames that were read are those that were read. -/
theorem frs_bytes {b : ByteArray} (f q : Nat) (hq : q ≤ b.size) : (b.data.toList.drop q).take ((frs b f q).2 - q) = frmL (frs b f q).1 := by
  induction f generalizing q with
  | zero => simp [frs, frmL]
  | succ f ih =>
    cases e : fread b q with
    | none => rw [frs_none e]; simp [frmL]
    | some p =>
      obtain ⟨s, y⟩ := p
      obtain ⟨h7, hlt, hle, hx, hy⟩ := fread_bytes e hq
      rw [frs_some e]
      simp only
      rw [frmL_cons, ← ih y hle, ← hx, ext_list]
      have h1 := (frs_end f y hle).1
      have hd : b.data.toList.drop y = (b.data.toList.drop q).drop (y - q) := by rw [List.drop_drop]; congr 1; omega
      rw [hd, take_take_drop]
      congr 1
      omega
/-- Frames that stand from q on are found, and then what stands behind them. -/
theorem frs_frm {b : ByteArray} (l : List ByteArray) : ∀ (f q : Nat) (R : List UInt8), (∀ s ∈ l, s.size ≤ 700) → b.data.toList.drop q = frmL l ++ R → q ≤ b.size →
    frs b (l.length + f) q = (l ++ (frs b f (q + (frmL l).length)).1, (frs b f (q + (frmL l).length)).2) := by
  induction l with
  | nil => intro f q R _ _ _; simp [frmL]
  | cons s l ih =>
    intro f q R hl h hq
    have hs := hl s (by simp)
    rw [frmL_cons, List.append_assoc] at h
    have hr := fread_frm hs h hq
    have hd : b.data.toList.drop (q + (frm s).size) = frmL l ++ R := by
      rw [← List.drop_drop, h, List.drop_append_of_le_length (by rw [data_len]; exact Nat.le_refl _), List.drop_of_length_le (by rw [data_len]; exact Nat.le_refl _), List.nil_append]
    have hle := (fread_bytes hr hq).2.2.1
    rw [show (s :: l).length + f = (l.length + f) + 1 by simp; omega, frs_some hr, ih f _ R (fun t ht => hl t (by simp [ht])) hd hle]
    have : (frmL (s :: l)).length = (frm s).size + (frmL l).length := by rw [frmL_cons, List.length_append, data_len]
    rw [this, ← Nat.add_assoc]
    rfl
/-- With less fuel the first frames are read. -/
theorem frs_take {b : ByteArray} (f q n : Nat) (hn : n ≤ (frs b f q).1.length) : (frs b n q).1 = (frs b f q).1.take n := by
  induction n generalizing f q with
  | zero => simp [frs]
  | succ n ih =>
    cases f with
    | zero => simp [frs] at hn
    | succ f =>
      cases e : fread b q with
      | none => rw [frs_none e] at hn; simp at hn
      | some p =>
        obtain ⟨s, y⟩ := p
        rw [frs_some e] at hn ⊢
        rw [frs_some e]
        simp only [List.length_cons, List.take_succ_cons] at hn ⊢
        rw [ih f y (by omega)]
theorem frs_short {b : ByteArray} (f q n : Nat) (h : (frs b n q).1.length < n) (hf : n ≤ f) : frs b f q = frs b n q := by
  induction n generalizing f q with
  | zero => omega
  | succ n ih =>
    obtain ⟨f, rfl⟩ : ∃ f', f = f' + 1 := ⟨f - 1, by omega⟩
    cases e : fread b q with
    | none => rw [frs_none e, frs_none e]
    | some p =>
      obtain ⟨s, y⟩ := p
      rw [frs_some e] at h ⊢
      rw [frs_some e]
      simp only [List.length_cons] at h
      rw [ih f y (by omega) (by omega)]
end Go.Proofs.Ytkhndofplebcaaa.Dk
