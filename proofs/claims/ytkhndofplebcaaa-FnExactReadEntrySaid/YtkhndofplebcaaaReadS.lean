/-
  What the model reads out of a record's bytes; its texts, good or bad.
-/
import Derived.Test.YtkhndofplebcaaaReadI
import Derived.Test.YtkhndofplebcaaaRdTx
namespace Go.Proofs.Ytkhndofplebcaaa
open Go.RowKit CM
set_option linter.unusedVariables false

set_option maxRecDepth 100000 in
set_option maxHeartbeats 1000000 in
theorem texts_bad2 (g : Nat) (s : ByteArray) (q : Nat) (w : World) (h : C1.RAt w g s q true) :
    Calls Try.prog 97 #[.pointer (some ⟨g, 0, none⟩)] w fun e w' => (∃ A n c, e = .returned (.slice A n c)) ∧ w.grownBy w' (some g) ∧ C1.RAt w' g s q true := by
  have HN := Lib.hid (num_bad g s q w h)
  clear h
  go_enter Try.func97, Try.ntmps97
  go_wp2_with fail
  refine HN.out.mono ?_
  rintro e w1 ⟨rfl, hG, hR⟩
  go_wp2
  refine wp_loop_rounds 1 ?_
  rw [rounds_succ]
  go_wp2
  go_ret
  exact ⟨⟨_, _, _, rfl⟩, hG, hR⟩
theorem flat_S9 (l : List ByteArray) : (l.map strCs).flatten = C1.S9 l := by
  induction l with
  | nil => rfl
  | cons a l ih => rw [List.map_cons, List.flatten_cons, ih]; rfl
/-- The texts: a list in a row of the call's own, or the reader is bad. -/
def TsPost2 (w : World) (g : Nat) (s : ByteArray) (σ : Option Nat) (e : Ending) (w' : World) : Prop :=
  ∃ A n c, e = .returned (.slice A n c) ∧ w.grownBy w' (some g) ∧ RS w' g s (rdTs s σ).2 ∧ ((rdTs s σ).2 = none ∨ (n = (rdTs s σ).1.length ∧ n ≤ 40 ∧ OwnS w' w.heap.size w'.heap.size A c (rdTs s σ).1))
theorem RS.texts2 {w : World} {g : Nat} {s : ByteArray} {σ : Option Nat} (h : RS w g s σ) (hs : s.size ≤ 6000) :
    Calls Try.prog 97 #[.pointer (some ⟨g, 0, none⟩)] w (TsPost2 w g s σ) := by
  cases σ with
  | none =>
    obtain ⟨q, hq⟩ := h
    exact (texts_bad2 g s q w hq).mono fun e w' ⟨⟨A, n, c, h1⟩, h2, h3⟩ => ⟨A, n, c, h1, h2, ⟨q, h3⟩, .inl rfl⟩
  | some q =>
    obtain ⟨h1, h2⟩ := h
    refine (C1.rtexts_slice g s q w h1 hs h2).mono ?_
    rintro e w' ⟨hG, ⟨hok, A, n, c, q', rfl, hR⟩ | ⟨l, z, v, hok, rfl, hown, hl, hR⟩⟩
    · have e1 : rdTs s (some q) = ([], none) := by
        show (match C1.readTexts s q with | none => ([], none) | some (l, z) => (l, some z)) = _
        rw [hok]
      rw [show TsPost2 w g s (some q) = TsPost2 w g s (some q) from rfl]
      unfold TsPost2
      rw [e1]
      exact ⟨A, n, c, rfl, hG, ⟨q', hR⟩, .inl rfl⟩
    · have e1 := rdTs_of hok
      rw [← flat_S9] at hown
      obtain ⟨A, c, rfl, hn, ho⟩ := Own.ofRow (hi := w'.heap.size) hown (strCs_len l) (by decide) (fun k hk => (hown.lt k hk).2)
      unfold TsPost2
      rw [e1]
      refine ⟨A, _, c, rfl, hG, ⟨hR, (texts_size h2 hok).2⟩, .inr ⟨by simp, by simpa using hl, ho⟩⟩

/-- The model's reads one after the other: the flag is one byte. -/
def o5 (s : ByteArray) := rdO s (r4 s).2
def o6 (s : ByteArray) := rdTs s (o5 s).2
def o7 (s : ByteArray) := rdN s (o6 s).2
def rdV (s : ByteArray) (σ : Option Nat) : (ByteArray × ByteArray × Bool) × Option Nat :=
  (((rdT s σ).1, (rdT s (rdO s (rdT s σ).2).2).1, (((rdO s (rdT s σ).2).1 : Int) == 1)), (rdT s (rdO s (rdT s σ).2).2).2)
def rdVs (s : ByteArray) (σ : Option Nat) : Nat → List (ByteArray × ByteArray × Bool) × Option Nat
  | 0 => ([], σ)
  | j + 1 => ((rdVs s σ j).1 ++ [(rdV s (rdVs s σ j).2).1], (rdV s (rdVs s σ j).2).2)
theorem rdVs_len (s : ByteArray) (σ : Option Nat) (j : Nat) : (rdVs s σ j).1.length = j := by
  induction j with
  | zero => rfl
  | succ j ih => simp [rdVs, ih]
theorem rdV_in {s : ByteArray} {σ : Option Nat} (h : RIn s σ) : RIn s (rdV s σ).2 ∧ (rdV s σ).1.1.size ≤ 60 ∧ (rdV s σ).1.2.1.size ≤ 60 ∧ (∀ q q', σ = some q → (rdV s σ).2 = some q' → q < q') := by
  have h1 := rdT_in h
  have h2 := rdO_in h1.1
  have h3 := rdT_in h2.1
  refine ⟨h3.1, h1.2.1, h3.2.1, fun q q' hq hq' => ?_⟩
  change (rdT s (rdO s (rdT s σ).2).2).2 = some q' at hq'
  cases e1 : (rdT s σ).2 with
  | none => rw [e1] at hq'; cases hq'
  | some a =>
    cases e2 : (rdO s (some a)).2 with
    | none => rw [e1, e2] at hq'; cases hq'
    | some b =>
      rw [e1] at h2 h3
      rw [e2] at h3
      rw [e1, e2] at hq'
      have := h1.2.2 q a hq e1
      have := h2.2.2 a b rfl e2
      have := h3.2.2 b q' rfl hq'
      omega
theorem rdVs_in {s : ByteArray} {σ : Option Nat} (h : RIn s σ) (j : Nat) : RIn s (rdVs s σ j).2 ∧ (∀ x ∈ (rdVs s σ j).1, x.1.size ≤ 60 ∧ x.2.1.size ≤ 60) ∧ (∀ q, (rdVs s σ j).2 = some q → j ≤ q) := by
  induction j with
  | zero => exact ⟨h, by simp [rdVs], fun q _ => Nat.zero_le _⟩
  | succ j ih =>
    have h1 := rdV_in ih.1
    refine ⟨h1.1, fun x hx => ?_, fun q hq => ?_⟩
    · simp only [rdVs] at hx
      rcases List.mem_append.1 hx with hx | hx
      · exact ih.2.1 x hx
      · rw [List.mem_singleton.1 hx]; exact ⟨h1.2.1, h1.2.2.1⟩
    · change (rdV s (rdVs s σ j).2).2 = some q at hq
      cases e : (rdVs s σ j).2 with
      | none => rw [e] at hq; cases hq
      | some a =>
        have := ih.2.2 a e
        have := h1.2.2.2 a q e hq
        omega
section
variable {s : ByteArray} {k t tm ld : Nat} {y : Bool} {rs : List ByteArray} {ws : List (ByteArray × ByteArray × Bool)}
theorem rdV_at {P R : List UInt8} {x : (ByteArray × ByteArray × Bool)} (h : s.data.toList = P ++ (wrBy x ++ R)) (h1 : x.1.size ≤ 60) (h2 : x.2.1.size ≤ 60) : rdV s (some P.length) = (x, some (P ++ wrBy x).length) := by
  obtain ⟨a, b, c⟩ := x
  simp only at h1 h2
  have e0 : wrBy (a, b, c) = C1.textB a.data.toList ++ ([flagB c] ++ C1.textB b.data.toList) := rfl
  have x1 := rdT_at (s := s) (P := P) (R := [flagB c] ++ (C1.textB b.data.toList ++ R)) (t := a) (by rw [h, e0]; simp only [List.append_assoc]) h1
  have x2 := rdO_at (s := s) (P := P ++ C1.textB a.data.toList) (R := C1.textB b.data.toList ++ R) (b := flagB c) (by rw [h, e0]; simp only [List.append_assoc])
  have x3 := rdT_at (s := s) (P := P ++ C1.textB a.data.toList ++ [flagB c]) (R := R) (t := b) (by rw [h, e0]; simp only [List.append_assoc]) h2
  unfold rdV
  rw [x1]
  simp only []
  rw [x2]
  simp only []
  rw [x3]
  simp only [e0, List.append_assoc]
  cases c <;> rfl
theorem rdVs_at {P R : List UInt8} (h : s.data.toList = P ++ (wsBy ws ws.length ++ R)) (hw : ∀ x ∈ ws, x.1.size ≤ 60 ∧ x.2.1.size ≤ 60) (j : Nat) (hj : j ≤ ws.length) : rdVs s (some P.length) j = (ws.take j, some (P ++ wsBy ws j).length) := by
  induction j with
  | zero => simp [rdVs, wsBy_zero]
  | succ j ih =>
    have e := ih (by omega)
    have hsplit : wsBy ws ws.length = wsBy ws j ++ (wrBy (ws[j]'(by omega)) ++ ((ws.drop (j + 1)).map wrBy).flatten) := by
      have e1 : wsBy ws ws.length = (ws.map wrBy).flatten := by unfold wsBy; rw [List.take_of_length_le (Nat.le_refl _)]
      rw [e1]
      have e2 : ws = ws.take j ++ ws[j]'(by omega) :: ws.drop (j + 1) := by rw [← List.drop_eq_getElem_cons (by omega), List.take_append_drop]
      conv => lhs; rw [e2]
      rw [List.map_append, List.map_cons, List.flatten_append, List.flatten_cons]
      rfl
    have hsz := hw _ (List.getElem_mem (show j < ws.length by omega))
    have x1 := rdV_at (s := s) (P := P ++ wsBy ws j) (R := ((ws.drop (j + 1)).map wrBy).flatten ++ R) (x := ws[j]'(by omega)) (by rw [h, hsplit]; simp only [List.append_assoc]) hsz.1 hsz.2
    unfold rdVs
    rw [e]
    simp only []
    rw [x1]
    simp only []
    rw [wsBy_step ws j (by omega), List.take_succ_eq_append_getElem (by omega), List.append_assoc]
/-- A valid record's bytes are read as that record by the model, and none of its reads fails. -/
theorem vreads_ok (h : s.data.toList = recBy k t tm ld y rs ws) (hok : RecOk k t tm ld rs ws) :
    (r1 s).1 = k ∧ (r2 s).1 = t ∧ (r3 s).1 = tm ∧ (r4 s).1 = ld ∧ (((o5 s).1 : Int) == 1) = y ∧ (o6 s).1 = rs ∧ (o7 s).1 = ws.length ∧ (o6 s).2 ≠ none ∧ (∀ j, j ≤ ws.length → (rdVs s (o7 s).2 j).1 = ws.take j ∧ (rdVs s (o7 s).2 j).2 ≠ none) := by
  obtain ⟨⟨kn, tn, tmn, ldn, e1, e2, e3, e4, q0, q1, q2, q3, q4⟩, l1, l2, hg, hws⟩ := hok
  have hd : s.data.toList = [] ++ (C1.M.numB k ++ (C1.M.numB t ++ (C1.M.numB tm ++ (C1.M.numB ld ++ ([flagB y] ++ (C1.tsum rs rs.length ++ (C1.M.numB ws.length ++ (wsBy ws ws.length ++ [])))))))) := by
    rw [h]; unfold recBy headBy; simp only [List.append_assoc, List.nil_append, List.append_nil]
  have x1 := rdN_at (s := s) (P := []) hd (by omega)
  rw [List.nil_append] at x1
  have x2 := rdN_at (s := s) (P := C1.M.numB k) (by rw [hd]; simp only [List.nil_append]; rfl) (show t ≤ 1000000000 by omega)
  have x3 := rdN_at (s := s) (P := C1.M.numB k ++ C1.M.numB t) (by rw [hd]; simp only [List.append_assoc, List.nil_append]; rfl) (show tm ≤ 1000000000 by omega)
  have x4 := rdN_at (s := s) (P := C1.M.numB k ++ C1.M.numB t ++ C1.M.numB tm) (by rw [hd]; simp only [List.append_assoc, List.nil_append]; rfl) (show ld ≤ 1000000000 by omega)
  have x5 := rdO_at (s := s) (P := C1.M.numB k ++ C1.M.numB t ++ C1.M.numB tm ++ C1.M.numB ld) (b := flagB y) (R := C1.tsum rs rs.length ++ (C1.M.numB ws.length ++ (wsBy ws ws.length ++ []))) (by rw [hd]; simp only [List.append_assoc, List.nil_append])
  have x6 := rdTs_at (s := s) (P := C1.M.numB k ++ C1.M.numB t ++ C1.M.numB tm ++ C1.M.numB ld ++ [flagB y]) (xs := rs) (by rw [hd]; simp only [List.append_assoc, List.nil_append]; rfl) hg
  have x7 := rdN_at (s := s) (P := C1.M.numB k ++ C1.M.numB t ++ C1.M.numB tm ++ C1.M.numB ld ++ [flagB y] ++ C1.tsum rs rs.length) (by rw [hd]; simp only [List.append_assoc, List.nil_append]; rfl) (show ws.length ≤ 1000000000 by omega)
  have x8 := fun j hj => rdVs_at (s := s) (ws := ws) (P := C1.M.numB k ++ C1.M.numB t ++ C1.M.numB tm ++ C1.M.numB ld ++ [flagB y] ++ C1.tsum rs rs.length ++ C1.M.numB ws.length) (R := []) (by rw [hd]; simp only [List.append_assoc, List.nil_append]) hws j hj
  have y1 := (show rdN s (some 0) = _ from x1)
  have y2 := (congrArg (fun p : Nat × Option Nat => rdN s p.2) y1).trans x2
  have y3 := (congrArg (fun p : Nat × Option Nat => rdN s p.2) y2).trans x3
  have y4 := (congrArg (fun p : Nat × Option Nat => rdN s p.2) y3).trans x4
  have y5 := (congrArg (fun p : Nat × Option Nat => rdO s p.2) y4).trans x5
  have z6 := rdTs_of x6
  have y6 := (congrArg (fun p : Nat × Option Nat => rdTs s p.2) y5).trans z6
  have y7 := (congrArg (fun p : List ByteArray × Option Nat => rdN s p.2) y6).trans x7
  change r1 s = _ at y1
  change r2 s = _ at y2
  change r3 s = _ at y3
  change r4 s = _ at y4
  change o5 s = _ at y5
  change o6 s = _ at y6
  change o7 s = _ at y7
  rw [y1, y2, y3, y4, y5, y6, y7]
  refine ⟨rfl, rfl, rfl, rfl, ?_, rfl, rfl, by simp, fun j hj => ?_⟩
  · cases y <;> rfl
  · simp only []
    rw [x8 j hj]
    exact ⟨rfl, by simp⟩
end
end Go.Proofs.Ytkhndofplebcaaa
