/-
  What the program reads out of a record's bytes; a valid record's bytes give that record.
-/
import Derived.Test.YtkhndofplebcaaaRdI
import Derived.Test.YtkhndofplebcaaaRdS
namespace Go.Proofs.Ytkhndofplebcaaa
open Go CM
set_option linter.unusedVariables false

def rdW (s : ByteArray) (σ : Option Nat) : (ByteArray × ByteArray × Bool) × Option Nat :=
  (((rdT s σ).1, (rdT s (rdN s (rdT s σ).2).2).1, (((rdN s (rdT s σ).2).1 : Int) == 1)), (rdT s (rdN s (rdT s σ).2).2).2)
def rdWs (s : ByteArray) (σ : Option Nat) : Nat → List (ByteArray × ByteArray × Bool) × Option Nat
  | 0 => ([], σ)
  | j + 1 => ((rdWs s σ j).1 ++ [(rdW s (rdWs s σ j).2).1], (rdW s (rdWs s σ j).2).2)
theorem rdWs_len (s : ByteArray) (σ : Option Nat) (j : Nat) : (rdWs s σ j).1.length = j := by
  induction j with
  | zero => rfl
  | succ j ih => simp [rdWs, ih]
theorem rdW_in {s : ByteArray} {σ : Option Nat} (h : RIn s σ) : RIn s (rdW s σ).2 ∧ (rdW s σ).1.1.size ≤ 60 ∧ (rdW s σ).1.2.1.size ≤ 60 :=
  ⟨(rdT_in (rdN_in (rdT_in h).1).1).1, (rdT_in h).2.1, (rdT_in (rdN_in (rdT_in h).1).1).2.1⟩
theorem rdWs_in {s : ByteArray} {σ : Option Nat} (h : RIn s σ) (j : Nat) : RIn s (rdWs s σ j).2 ∧ ∀ x ∈ (rdWs s σ j).1, x.1.size ≤ 60 ∧ x.2.1.size ≤ 60 := by
  induction j with
  | zero => exact ⟨h, by simp [rdWs]⟩
  | succ j ih =>
    have h1 := rdW_in ih.1
    refine ⟨h1.1, fun x hx => ?_⟩
    simp only [rdWs] at hx
    rcases List.mem_append.1 hx with hx | hx
    · exact ih.2 x hx
    · rw [List.mem_singleton.1 hx]; exact h1.2
theorem rdTs_in {s : ByteArray} {σ : Option Nat} (h : RIn s σ) : RIn s (rdTs s σ).2 ∧ ∀ x ∈ (rdTs s σ).1, x.size ≤ 60 := by
  cases σ with
  | none => exact ⟨fun q hq => (by cases hq), by simp [rdTs]⟩
  | some q =>
    unfold rdTs
    simp only []
    cases hr : C1.readTexts s q with
    | none => exact ⟨fun q hq => (by cases hq), by simp⟩
    | some p =>
      obtain ⟨l, z⟩ := p
      have := texts_size (h q rfl) hr
      exact ⟨fun q' hq => by injection hq with hq; omega, this.1⟩

theorem rdTs_of {s : ByteArray} {q z : Nat} {l : List ByteArray} (h : C1.readTexts s q = some (l, z)) : rdTs s (some q) = (l, some z) := by
  show (match C1.readTexts s q with | none => ([], none) | some (l, z) => (l, some z)) = _
  rw [h]
/-- The reads one after the other. -/
def r1 (s : ByteArray) := rdN s (some 0)
def r2 (s : ByteArray) := rdN s (r1 s).2
def r3 (s : ByteArray) := rdN s (r2 s).2
def r4 (s : ByteArray) := rdN s (r3 s).2
def r5 (s : ByteArray) := rdN s (r4 s).2
def r6 (s : ByteArray) := rdTs s (r5 s).2
def r7 (s : ByteArray) := rdN s (r6 s).2
def r8 (s : ByteArray) := rdWs s (r7 s).2 (min (r7 s).1 8)

section
variable {s : ByteArray} {k t tm ld : Nat} {y : Bool} {rs : List ByteArray} {ws : List (ByteArray × ByteArray × Bool)}
theorem rdW_at {P R : List UInt8} {x : (ByteArray × ByteArray × Bool)} (h : s.data.toList = P ++ (wrBy x ++ R)) (h1 : x.1.size ≤ 60) (h2 : x.2.1.size ≤ 60) : rdW s (some P.length) = (x, some (P ++ wrBy x).length) := by
  obtain ⟨a, b, c⟩ := x
  simp only at h1 h2
  have e0 : wrBy (a, b, c) = C1.textB a.data.toList ++ ([flagB c] ++ C1.textB b.data.toList) := rfl
  have x1 := rdT_at (s := s) (P := P) (R := [flagB c] ++ (C1.textB b.data.toList ++ R)) (t := a) (by rw [h, e0]; simp only [List.append_assoc]) h1
  have x2 := rdN_at (s := s) (P := P ++ C1.textB a.data.toList) (R := C1.textB b.data.toList ++ R) (n := if c then 1 else 0) (by rw [h, e0, ← flag_num]; simp only [List.append_assoc]) (by split <;> omega)
  have x3 := rdT_at (s := s) (P := P ++ C1.textB a.data.toList ++ C1.M.numB (if c then 1 else 0)) (R := R) (t := b) (by rw [h, e0, ← flag_num]; simp only [List.append_assoc]) h2
  unfold rdW
  rw [x1]
  simp only []
  rw [x2]
  simp only []
  rw [x3]
  simp only [e0, List.append_assoc, flag_num]
  cases c <;> rfl
theorem rdWs_at {P R : List UInt8} (h : s.data.toList = P ++ (wsBy ws ws.length ++ R)) (hw : ∀ x ∈ ws, x.1.size ≤ 60 ∧ x.2.1.size ≤ 60) (j : Nat) (hj : j ≤ ws.length) : rdWs s (some P.length) j = (ws.take j, some (P ++ wsBy ws j).length) := by
  induction j with
  | zero => simp [rdWs, wsBy_zero]
  | succ j ih =>
    have e := ih (by omega)
    have hsplit : wsBy ws ws.length = wsBy ws j ++ (wrBy (ws[j]'(by omega)) ++ ((ws.drop (j + 1)).map wrBy).flatten) := by
      have e1 : wsBy ws ws.length = (ws.map wrBy).flatten := by unfold wsBy; rw [List.take_of_length_le (Nat.le_refl _)]
      rw [e1]
      have e2 : ws = ws.take j ++ ws[j]'(by omega) :: ws.drop (j + 1) := by rw [← List.drop_eq_getElem_cons (by omega), List.take_append_drop]
      conv => lhs; rw [e2]
      rw [List.map_append, List.map_cons, List.flatten_append, List.flatten_cons]
      rfl
    have hsz := hw _ (List.getElem_mem (show j < ws.length by omega))
    have x1 := rdW_at (s := s) (P := P ++ wsBy ws j) (R := ((ws.drop (j + 1)).map wrBy).flatten ++ R) (x := ws[j]'(by omega)) (by rw [h, hsplit]; simp only [List.append_assoc]) hsz.1 hsz.2
    unfold rdWs
    rw [e]
    simp only []
    rw [x1]
    simp only []
    rw [wsBy_step ws j (by omega), List.take_succ_eq_append_getElem (by omega), List.append_assoc]
/-- A valid record's bytes are read as that record. -/
theorem reads_ok (h : s.data.toList = recBy k t tm ld y rs ws) (hok : RecOk k t tm ld rs ws) :
    (r1 s).1 = k ∧ (r2 s).1 = t ∧ (r3 s).1 = tm ∧ (r4 s).1 = ld ∧ (((r5 s).1 : Int) == 1) = y ∧ (r6 s).1 = rs ∧ (r8 s).1 = ws := by
  obtain ⟨⟨kn, tn, tmn, ldn, e1, e2, e3, e4, q0, q1, q2, q3, q4⟩, l1, l2, hg, hws⟩ := hok
  have hd : s.data.toList = [] ++ (C1.M.numB k ++ (C1.M.numB t ++ (C1.M.numB tm ++ (C1.M.numB ld ++ (C1.M.numB (if y then 1 else 0) ++ (C1.tsum rs rs.length ++ (C1.M.numB ws.length ++ (wsBy ws ws.length ++ [])))))))) := by
    rw [h]; unfold recBy headBy; rw [flag_num]; simp only [List.append_assoc, List.nil_append, List.append_nil]
  have x1 := rdN_at (s := s) (P := []) hd (by omega)
  rw [List.nil_append] at x1
  have x2 := rdN_at (s := s) (P := C1.M.numB k) (by rw [hd]; simp only [List.nil_append]; rfl) (show t ≤ 1000000000 by omega)
  have x3 := rdN_at (s := s) (P := C1.M.numB k ++ C1.M.numB t) (by rw [hd]; simp only [List.append_assoc, List.nil_append]; rfl) (show tm ≤ 1000000000 by omega)
  have x4 := rdN_at (s := s) (P := C1.M.numB k ++ C1.M.numB t ++ C1.M.numB tm) (by rw [hd]; simp only [List.append_assoc, List.nil_append]; rfl) (show ld ≤ 1000000000 by omega)
  have x5 := rdN_at (s := s) (P := C1.M.numB k ++ C1.M.numB t ++ C1.M.numB tm ++ C1.M.numB ld) (by rw [hd]; simp only [List.append_assoc, List.nil_append]; rfl) (show (if y then 1 else 0) ≤ 1000000000 by split <;> omega)
  have x6 := rdTs_at (s := s) (P := C1.M.numB k ++ C1.M.numB t ++ C1.M.numB tm ++ C1.M.numB ld ++ C1.M.numB (if y then 1 else 0)) (xs := rs) (by rw [hd]; simp only [List.append_assoc, List.nil_append]; rfl) hg
  have x7 := rdN_at (s := s) (P := C1.M.numB k ++ C1.M.numB t ++ C1.M.numB tm ++ C1.M.numB ld ++ C1.M.numB (if y then 1 else 0) ++ C1.tsum rs rs.length) (by rw [hd]; simp only [List.append_assoc, List.nil_append]; rfl) (show ws.length ≤ 1000000000 by omega)
  have x8 := rdWs_at (s := s) (ws := ws) (P := C1.M.numB k ++ C1.M.numB t ++ C1.M.numB tm ++ C1.M.numB ld ++ C1.M.numB (if y then 1 else 0) ++ C1.tsum rs rs.length ++ C1.M.numB ws.length) (R := []) (by rw [hd]; simp only [List.append_assoc, List.nil_append]) hws ws.length (Nat.le_refl _)
  have y1 := (show rdN s (some 0) = _ from x1)
  have y2 := (congrArg (fun p : Nat × Option Nat => rdN s p.2) y1).trans x2
  have y3 := (congrArg (fun p : Nat × Option Nat => rdN s p.2) y2).trans x3
  have y4 := (congrArg (fun p : Nat × Option Nat => rdN s p.2) y3).trans x4
  have y5 := (congrArg (fun p : Nat × Option Nat => rdN s p.2) y4).trans x5
  have z6 := rdTs_of x6
  have y6 := (congrArg (fun p : Nat × Option Nat => rdTs s p.2) y5).trans z6
  have y7 := (congrArg (fun p : List ByteArray × Option Nat => rdN s p.2) y6).trans x7
  have y8 := congrArg (fun p : Nat × Option Nat => rdWs s p.2 (min p.1 8)) y7
  have hm : min ws.length 8 = ws.length := by omega
  simp only [hm, x8] at y8
  change r1 s = _ at y1
  change r2 s = _ at y2
  change r3 s = _ at y3
  change r4 s = _ at y4
  change r5 s = _ at y5
  change r6 s = _ at y6
  change r8 s = _ at y8
  rw [y1, y2, y3, y4, y5, y6, y8]
  refine ⟨rfl, rfl, rfl, rfl, ?_, rfl, List.take_of_length_le (Nat.le_refl _)⟩
  cases y <;> rfl
end
end Go.Proofs.Ytkhndofplebcaaa
