/-
  Advance, as data; one replica's count of sure entries stored.
-/
import Derived.Test.YtkhndofplebcaaaGrChM
import Derived.Test.YtkhndofplebcaaaGrBeg
namespace Go.Proofs.Ytkhndofplebcaaa.Gr
open Go.RowKit CM
set_option linter.unusedVariables false
set_option linter.unusedSimpArgs false

def logOf (rs : List RD) (i : Nat) : List ED := match rs[i]? with | some r => r.log | none => []
def suOf (rs : List RD) (i : Nat) : Int := match rs[i]? with | some r => r.su | none => 0
theorem logOf_map {rs : List RH} {k : Nat} (h : k < rs.length) : logOf (rs.map rdat) k = rs[k].es.map EH.d := by simp [logOf, List.getElem?_eq_getElem h, rdat]
theorem suOf_map {rs : List RH} {k : Nat} (h : k < rs.length) : suOf (rs.map rdat) k = rs[k].su := by simp [suOf, List.getElem?_eq_getElem h, rdat]
def setSu (rs : List RD) (i : Nat) (v : Int) : List RD := match rs[i]? with | some r => rs.set i ⟨r.up, v, r.log⟩ | none => rs
def suH (gs : List RH) (i : Nat) (v : Int) : List RH := match gs[i]? with | some r => gs.set i ⟨r.up, v, r.A, r.c, r.es, r.lo, r.hi⟩ | none => gs
theorem suH_map (gs : List RH) (i : Nat) (v : Int) : (suH gs i v).map rdat = setSu (gs.map rdat) i v := by
  unfold suH setSu
  rw [List.getElem?_map]
  cases gs[i]? with
  | none => rfl
  | some r => simp [List.map_set, rdat]
theorem setSu_len (rs : List RD) (i : Nat) (v : Int) : (setSu rs i v).length = rs.length := by unfold setSu; split <;> simp
theorem setSu_same (rs : List RD) (i : Nat) : setSu rs i (suOf rs i) = rs := by
  unfold setSu suOf
  cases h : rs[i]? with
  | none => rfl
  | some r =>
    obtain ⟨hi, he⟩ := List.getElem?_eq_some_iff.1 h
    simp only
    rw [show (⟨r.up, r.su, r.log⟩ : RD) = rs[i] from he.symm]
    exact List.set_getElem_self hi
theorem own_suH {w : World} {lo hi c g : Nat} {gs : List RH} (h : OwnK KR w lo hi (some ⟨g, 0, none⟩) c gs) (q : Nat) (hq : q < gs.length) (v : Int) : OwnK KR (w.setCell ⟨g, q * 3 + 2, none⟩ (.int .i64 v)) lo hi (some ⟨g, 0, none⟩) c (suH gs q v) := by
  have e : suH gs q v = gs.take q ++ ⟨gs[q].up, v, gs[q].A, gs[q].c, gs[q].es, gs[q].lo, gs[q].hi⟩ :: gs.drop (q + 1) := by
    unfold suH
    rw [List.getElem?_eq_getElem hq]
    exact set_split gs q hq _
  rw [e]
  rw [get_split gs q hq] at h
  exact h.cellAt ⟨gs[q].up, v, gs[q].A, gs[q].c, gs[q].es, gs[q].lo, gs[q].hi⟩ 2 (by decide) (.int .i64 v) rfl rfl rfl (fun _ h => h) (q * 3 + 2) (by rw [List.length_take, Nat.min_eq_left (by omega)]; rfl)
theorem setSu_sz (rs : List RD) (i : Nat) (v : Int) : rpSz (setSu rs i v) = rpSz rs := by
  unfold setSu
  split
  · rename_i r hr
    obtain ⟨hi, he⟩ := List.getElem?_eq_some_iff.1 hr
    unfold rpSz
    rw [List.length_set, List.map_set]
    congr 2
    have : (rs.map fun r => lgSz r.log)[i]? = some (lgSz r.log) := by rw [List.getElem?_map, hr]; rfl
    refine List.ext_getElem? fun k => ?_
    by_cases hk : k = i
    · subst hk
      rw [List.getElem?_set_self (by simpa using hi), this]
    · rw [List.getElem?_set_ne (by omega)]
  · rfl
/-- How many logs begin with the first n entries of L. -/
def cntS (L : List ED) (n : Nat) (rs : List RD) : Nat := (rs.filter fun r => decide (n ≤ shN r.log L)).length
theorem cntS_step {L : List ED} {n : Nat} {rs : List RD} {k : Nat} (h : k < rs.length) : cntS L n (rs.drop k) = (decide (n ≤ shN rs[k].log L)).toNat + cntS L n (rs.drop (k + 1)) := by
  unfold cntS
  rw [List.drop_eq_getElem_cons h, List.filter_cons]
  cases decide (n ≤ shN rs[k].log L) <;> simp; omega
theorem cntS_le (L : List ED) (n : Nat) (rs : List RD) : cntS L n rs ≤ rs.length := List.length_filter_le _ _
def tmAt (L : List ED) (i : Nat) : Int := match L[i]? with | some d => d.tm | none => 0
theorem tmAt_map {es : List EH} {k : Nat} (h : k < es.length) : tmAt (es.map EH.d) k = es[k].d.tm := by simp [tmAt, List.getElem?_eq_getElem h]
def advP (T : Int) (L : List ED) (rs : List RD) (n : Nat) : Bool := decide (tmAt L (n - 1) = T) && decide (rs.length < 2 * cntS L n rs)
def advF (P : Nat → Bool) (s : Nat) : Nat → Nat
  | 0 => s
  | n + 1 => if n + 1 ≤ s then s else if P (n + 1) = true then n + 1 else advF P s n
theorem advF_low {P : Nat → Bool} {s n : Nat} (h : n ≤ s) : advF P s n = s := by
  cases n with
  | zero => rfl
  | succ n => simp [advF, h]
theorem advF_step {P : Nat → Bool} {s n : Nat} (h : s < n + 1) : advF P s (n + 1) = if P (n + 1) = true then n + 1 else advF P s n := by
  simp only [advF]; rw [if_neg (by omega)]
theorem advF_none {P : Nat → Bool} {s : Nat} : ∀ n, (∀ k, 1 ≤ k → k ≤ n → P k = false) → advF P s n = s
  | 0, _ => rfl
  | n + 1, h => by
    simp only [advF]
    split
    · rfl
    · rw [if_neg (by rw [h (n + 1) (by omega) (Nat.le_refl _)]; simp)]
      exact advF_none n fun k h1 h2 => h k h1 (by omega)
theorem advF_le {P : Nat → Bool} {s : Nat} : ∀ n, s ≤ advF P s n ∧ (advF P s n ≤ n ∨ advF P s n = s)
  | 0 => ⟨Nat.le_refl _, .inr rfl⟩
  | n + 1 => by
    simp only [advF]
    split
    · exact ⟨Nat.le_refl _, .inr rfl⟩
    · split
      · exact ⟨by omega, .inl (Nat.le_refl _)⟩
      · have := advF_le (P := P) (s := s) n
        omega
/-- The terms of a valid log rise. -/
theorem lgB_rise {T : Int} : ∀ {b : Int} {L : List ED}, lgB T b L = true → (∀ d ∈ L, b ≤ d.tm ∧ d.tm ≤ T) ∧ L.Pairwise fun a d => a.tm ≤ d.tm
  | _, [], _ => ⟨by simp, List.Pairwise.nil⟩
  | b, d :: l, h => by
    simp only [lgB, inB, Bool.and_eq_true, decide_eq_true_eq] at h
    obtain ⟨⟨h1, h2⟩, _, h3⟩ := h
    obtain ⟨i1, i2⟩ := lgB_rise h3
    refine ⟨fun x hx => ?_, List.Pairwise.cons (fun x hx => (i1 x hx).1) i2⟩
    rcases List.mem_cons.1 hx with rfl | hx
    · exact ⟨h1, h2⟩
    · have := i1 x hx; exact ⟨by omega, this.2⟩
theorem tm_rise {T b : Int} {L : List ED} (h : lgB T b L = true) {i j : Nat} (hij : i ≤ j) (hj : j < L.length) : tmAt L i ≤ tmAt L j ∧ tmAt L j ≤ T := by
  obtain ⟨h1, h2⟩ := lgB_rise h
  have hi : i < L.length := by omega
  simp only [tmAt, List.getElem?_eq_getElem hi, List.getElem?_eq_getElem hj]
  refine ⟨?_, (h1 _ (List.getElem_mem hj)).2⟩
  rcases Nat.lt_or_ge i j with h | h
  · exact List.pairwise_iff_getElem.1 h2 i j hi hj h
  · have : i = j := by omega
    subst this; exact Int.le_refl _
theorem advP_low {T b : Int} {L : List ED} {rs : List RD} {n : Nat} (h : lgB T b L = true) (hn : n < L.length) (ht : tmAt L n < T) : ∀ k, 1 ≤ k → k ≤ n + 1 → advP T L rs k = false := fun k h1 h2 => by
  have := (tm_rise h (show k - 1 ≤ n by omega) hn).1
  unfold advP
  rw [decide_eq_false (by omega), Bool.false_and]
def advV (T : Int) (rs : List RD) (i : Nat) : Nat := advF (advP T (logOf rs i) rs) (suOf rs i).toNat (logOf rs i).length
def advA (tm ld : Int) (rs : List RD) : List RD × Int × Int × Bool := if grpB tm ld rs = true ∧ ld ≠ -1 then (setSu rs ld.toNat (advV tm rs ld.toNat : Nat), tm, ld, true) else noGA
theorem advA_no {tm ld : Int} {rs : List RD} (h : grpB tm ld rs = false ∨ ld = -1) : advA tm ld rs = noGA := by
  unfold advA; rw [if_neg]; rintro ⟨h1, h2⟩; rcases h with h | h
  · simp [h] at h1
  · exact h2 h
theorem advA_sz {tm ld : Int} {rs : List RD} (h : rpSz rs ≤ 1048576) : rpSz (advA tm ld rs).1 ≤ 1048576 := by
  unfold advA; split
  · simp only [setSu_sz]; exact h
  · unfold noGA rpSz; simp
end Go.Proofs.Ytkhndofplebcaaa.Gr
