/-
  A record as bytes: plain lists. What a valid record holds.
-/
import Derived.Test.YtkhndofplebcaaaGoodL
import Derived.Test.YtkhndofplebcaaaC1
namespace Go.Proofs.Ytkhndofplebcaaa
open Go CM
set_option linter.unusedVariables false

theorem rec_lens {k t tm ld : Int} {y : Bool} {rs : List ByteArray} {ws : List (ByteArray × ByteArray × Bool)} (h : recB k t tm ld y rs ws = true) : rs.length ≤ 8 ∧ ws.length ≤ 8 := by
  have hr : restB rs ws = true → rs.length ≤ 8 ∧ ws.length ≤ 8 := fun h => by
    unfold restB at h
    rw [decide_eq_true_eq] at h
    omega
  unfold recB at h
  split at h
  · simp only [partsB, ksB, Bool.and_eq_true, decide_eq_true_eq] at h
    omega
  · split at h
    · simp only [Bool.and_eq_true] at h; exact hr h.2.1
    · split at h
      · simp only [Bool.and_eq_true] at h; exact hr h.2.1
      · cases h

def flagB (b : Bool) : UInt8 := if b then 1 else 0
/-- One write as bytes. -/
def wrBy (x : (ByteArray × ByteArray × Bool)) : List UInt8 := C1.textB x.1.data.toList ++ ([flagB x.2.2] ++ C1.textB x.2.1.data.toList)
/-- The first k writes as bytes. -/
def wsBy (ws : List (ByteArray × ByteArray × Bool)) (k : Nat) : List UInt8 := ((ws.take k).map wrBy).flatten
theorem wsBy_zero (ws : List (ByteArray × ByteArray × Bool)) : wsBy ws 0 = [] := rfl
theorem wsBy_step (ws : List (ByteArray × ByteArray × Bool)) (k : Nat) (h : k < ws.length) : wsBy ws (k + 1) = wsBy ws k ++ wrBy ws[k] := by
  unfold wsBy
  rw [List.take_succ_eq_append_getElem h, List.map_append, List.flatten_append]
  simp
/-- All ahead of the writes. -/
def headBy (k t tm ld : Nat) (y : Bool) (rs : List ByteArray) (n : Nat) : List UInt8 :=
  C1.M.numB k ++ C1.M.numB t ++ C1.M.numB tm ++ C1.M.numB ld ++ [flagB y] ++ C1.tsum rs rs.length ++ C1.M.numB n
def recBy (k t tm ld : Nat) (y : Bool) (rs : List ByteArray) (ws : List (ByteArray × ByteArray × Bool)) : List UInt8 := headBy k t tm ld y rs ws.length ++ wsBy ws ws.length
theorem wrBy_len (x : (ByteArray × ByteArray × Bool)) (h1 : x.1.size ≤ 60) (h2 : x.2.1.size ≤ 60) : (wrBy x).length ≤ 141 := by
  have a := C1.M.numB_len x.1.data.toList.length
  have b := C1.M.numB_len x.2.1.data.toList.length
  have c : x.1.data.toList.length = x.1.size := by simp
  have d : x.2.1.data.toList.length = x.2.1.size := by simp
  unfold wrBy C1.textB
  simp only [List.length_append, List.length_singleton]
  omega
theorem wsBy_len (ws : List (ByteArray × ByteArray × Bool)) (k : Nat) (hk : k ≤ ws.length) (h : ∀ x ∈ ws, x.1.size ≤ 60 ∧ x.2.1.size ≤ 60) : (wsBy ws k).length ≤ 141 * k := by
  induction k with
  | zero => simp [wsBy]
  | succ k ih =>
    rw [wsBy_step ws k (by omega), List.length_append]
    have h1 := ih (by omega)
    have h2 := h _ (List.getElem_mem (show k < ws.length by omega))
    have h3 := wrBy_len ws[k] h2.1 h2.2
    omega
theorem headBy_len (k t tm ld : Nat) (y : Bool) (rs : List ByteArray) (n : Nat) (hg : C1.Good rs) (h8 : rs.length ≤ 8) : (headBy k t tm ld y rs n).length ≤ 621 := by
  have a := C1.M.numB_len k
  have b := C1.M.numB_len t
  have c := C1.M.numB_len tm
  have d := C1.M.numB_len ld
  have e := C1.M.numB_len n
  have f := C1.tsum_len rs rs.length (Nat.le_refl _) (fun j hj _ => hg.2 j hj)
  unfold headBy
  simp only [List.length_append, List.length_singleton]
  omega

/-- What a valid record holds. -/
def RecOk (k t tm ld : Int) (rs : List ByteArray) (ws : List (ByteArray × ByteArray × Bool)) : Prop :=
  (∃ kn tn tmn ldn : Nat, k = kn ∧ t = tn ∧ tm = tmn ∧ ld = ldn ∧ 1 ≤ kn ∧ kn ≤ 4 ∧ tn ≤ 60 ∧ tmn ≤ 100000 ∧ ldn ≤ 3) ∧ rs.length ≤ 8 ∧ ws.length ≤ 8 ∧ C1.Good rs ∧ ∀ x ∈ ws, x.1.size ≤ 60 ∧ x.2.1.size ≤ 60
theorem keyB_size {s : ByteArray} (h : keyB s = true) : s.size ≤ 12 := by
  simp only [keyB, Bool.and_eq_true, decide_eq_true_eq] at h
  exact h.2.1
theorem valB_size {s : ByteArray} (h : valB s = true) : s.size ≤ 24 := by
  simp only [valB, Bool.and_eq_true, decide_eq_true_eq] at h
  exact h.1
theorem rec_ok {k t tm ld : Int} {y : Bool} {rs : List ByteArray} {ws : List (ByteArray × ByteArray × Bool)} (h : recB k t tm ld y rs ws = true) : RecOk k t tm ld rs ws := by
  obtain ⟨l1, l2⟩ := rec_lens h
  have hempty : restB rs ws = true → C1.Good rs ∧ ∀ x ∈ ws, x.1.size ≤ 60 ∧ x.2.1.size ≤ 60 := fun h => by
    unfold restB at h
    rw [decide_eq_true_eq] at h
    have h1 : rs = [] := List.eq_nil_of_length_eq_zero (by omega)
    have h2 : ws = [] := List.eq_nil_of_length_eq_zero (by omega)
    subst h1 h2
    exact ⟨⟨by simp, fun k hk => by simp at hk⟩, by simp⟩
  have hparts : partsB rs ws = true → C1.Good rs ∧ ∀ x ∈ ws, x.1.size ≤ 60 ∧ x.2.1.size ≤ 60 := fun h => by
    simp only [partsB, ksB, kuB, wB, writesB, Bool.and_eq_true, decide_eq_true_eq, List.all_eq_true] at h
    obtain ⟨⟨⟨h1, _⟩, h2⟩, ⟨h3, _⟩, h4, _⟩ := h
    refine ⟨⟨by omega, fun k hk => ?_⟩, fun x hx => ?_⟩
    · have := keyB_size (h1 _ (List.getElem_mem hk)); omega
    · have h5 := h3 x hx
      rw [writeB_eq] at h5
      simp only [contB, Bool.and_eq_true] at h5
      have h6 := keyB_size h5.1
      have h7 := valB_size h5.2.1
      omega
  have mk : ∀ {a b c d : Int}, 1 ≤ a → a ≤ 4 → 0 ≤ b → b ≤ 60 → 0 ≤ c → c ≤ 100000 → 0 ≤ d → d ≤ 3 → ∃ kn tn tmn ldn : Nat, a = kn ∧ b = tn ∧ c = tmn ∧ d = ldn ∧ 1 ≤ kn ∧ kn ≤ 4 ∧ tn ≤ 60 ∧ tmn ≤ 100000 ∧ ldn ≤ 3 := fun h1 h2 h3 h4 h5 h6 h7 h8 =>
    ⟨_, _, _, _, (Int.toNat_of_nonneg (by omega)).symm, (Int.toNat_of_nonneg h3).symm, (Int.toNat_of_nonneg h5).symm, (Int.toNat_of_nonneg h7).symm, by omega, by omega, by omega, by omega, by omega⟩
  unfold recB at h
  split at h
  · rename_i h1
    simp only [Bool.and_eq_true] at h
    obtain ⟨a, b, c, d, _⟩ := h
    have a' := inB_true a
    have b' := inB_true b
    have c' := inB_true c
    obtain ⟨p, q⟩ := hparts d
    exact ⟨mk (by omega) (by omega) (by omega) (by omega) (by omega) (by omega) (by omega) (by omega), l1, l2, p, q⟩
  · split at h
    · rename_i h1
      simp only [Bool.and_eq_true, beq_iff_eq] at h
      obtain ⟨a, b, c, d⟩ := h
      have c' := inB_true c
      obtain ⟨p, q⟩ := hempty b
      have d' : 0 ≤ tm ∧ tm ≤ 100000 := by
        cases y with
        | true => have := inB_true (show inB tm 1 100000 = true from d); omega
        | false => have : tm = 0 := eq_of_beq (show (tm == 0) = true from d); omega
      exact ⟨mk (by omega) (by omega) (by omega) (by omega) (by omega) (by omega) (by omega) (by omega), l1, l2, p, q⟩
    · split at h
      · simp only [Bool.and_eq_true, beq_iff_eq] at h
        obtain ⟨a, b, c, d, _⟩ := h
        have d' := inB_true d
        obtain ⟨p, q⟩ := hempty b
        exact ⟨mk (by omega) (by omega) (by omega) (by omega) (by omega) (by omega) (by omega) (by omega), l1, l2, p, q⟩
      · cases h
end Go.Proofs.Ytkhndofplebcaaa
