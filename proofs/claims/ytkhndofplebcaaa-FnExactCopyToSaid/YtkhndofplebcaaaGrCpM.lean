/-
  CopyTo, as data; one replica stored anew, its log in newer memory.
-/
import Derived.Test.YtkhndofplebcaaaGrChM
import Derived.Test.YtkhndofplebcaaaGrBeg
import Derived.Test.YtkhndofplebcaaaGrLead
import Derived.Test.YtkhndofplebcaaaGrW
namespace Go.Proofs.Ytkhndofplebcaaa.Gr
open Go.RowKit CM
set_option linter.unusedVariables false
set_option linter.unusedSimpArgs false

def lgOf (rs : List RD) (i : Nat) : List ED := match rs[i]? with | some r => r.log | none => []
def srOf (rs : List RD) (i : Nat) : Int := match rs[i]? with | some r => r.su | none => 0
theorem lgOf_map {rs : List RH} {k : Nat} (h : k < rs.length) : lgOf (rs.map rdat) k = rs[k].es.map EH.d := by simp [lgOf, List.getElem?_eq_getElem h, rdat]
theorem srOf_map {rs : List RH} {k : Nat} (h : k < rs.length) : srOf (rs.map rdat) k = rs[k].su := by simp [srOf, List.getElem?_eq_getElem h, rdat]
/-- How much of the copied log is sure. -/
def cpyV (rs : List RD) (r l : Nat) : Int := min (max (srOf rs l) (srOf rs r)) ((lgOf rs l).length : Int)
def cpyRs (rs : List RD) (r l : Nat) : List RD := rs.set r ⟨true, cpyV rs r l, lgOf rs l⟩
def cpyB (ld : Int) (rs : List RD) (r : Int) : Bool := decide (ld ≠ -1) && (decide (r ≠ ld) && isUpB rs r)
def cpyA (tm ld : Int) (rs : List RD) (r : Int) : List RD × Int × Int × Bool := if grpB tm ld rs = true ∧ cpyB ld rs r = true then (cpyRs rs r.toNat ld.toNat, tm, ld, true) else noGA
theorem cpyA_no {tm ld r : Int} {rs : List RD} (h : grpB tm ld rs = false ∨ cpyB ld rs r = false) : cpyA tm ld rs r = noGA := by
  unfold cpyA; rw [if_neg]; rintro ⟨h1, h2⟩; rcases h with h | h <;> simp [h] at h1 h2
theorem sum_most {α : Type} (f : α → Nat) (X : Nat) : ∀ l : List α, (∀ x ∈ l, f x ≤ X) → (l.map f).sum ≤ l.length * X
  | [], _ => by simp
  | x :: l, h => by
    have h1 := sum_most f X l fun y hy => h y (by simp [hy])
    have h2 := h x (by simp)
    simp only [List.map_cons, List.sum_cons, List.length_cons, Nat.add_mul, Nat.one_mul]
    omega
theorem szD_le {d : ED} (h : erB d = true) : szD d ≤ 500 := by
  have hp : partsB d.rs d.ws = true → szD d ≤ 500 := fun h => by
    simp only [partsB, ksB, kuB, wB, writesB, Bool.and_eq_true, decide_eq_true_eq, List.all_eq_true] at h
    obtain ⟨⟨⟨h1, _⟩, h2⟩, ⟨h3, _⟩, h4, _⟩ := h
    have a1 := sum_most (fun x => x.size) 12 d.rs fun x hx => by
      have := h1 x hx
      simp only [keyB, Bool.and_eq_true, decide_eq_true_eq] at this
      exact this.2.1
    have a2 := sum_most (fun x => x.1.size + x.2.1.size) 36 d.ws fun x hx => by
      have h5 := h3 x hx
      rw [writeB_eq] at h5
      simp only [contB, keyB, valB, Bool.and_eq_true, decide_eq_true_eq] at h5
      have := h5.1.2.1
      have := h5.2.1.1
      omega
    have b1 : d.rs.length * 12 ≤ 8 * 12 := Nat.mul_le_mul_right _ h2
    have b2 : d.ws.length * 36 ≤ 8 * 36 := Nat.mul_le_mul_right _ h4
    unfold szD szSs szWs
    omega
  have hr : restB d.rs d.ws = true → szD d ≤ 500 := fun h => by
    unfold restB at h
    rw [decide_eq_true_eq] at h
    have h1 : d.rs = [] := List.eq_nil_of_length_eq_zero (by omega)
    have h2 : d.ws = [] := List.eq_nil_of_length_eq_zero (by omega)
    simp [szD, h1, h2, szSs, szWs]
  unfold erB recB at h
  split at h
  · simp only [Bool.and_eq_true] at h
    exact hp h.2.2.2.1
  · split at h
    · simp only [Bool.and_eq_true] at h
      exact hr h.2.1
    · split at h
      · simp only [Bool.and_eq_true] at h
        exact hr h.2.1
      · cases h
theorem lgB_er {T : Int} : ∀ {b : Int} {L : List ED}, lgB T b L = true → ∀ d ∈ L, erB d = true
  | _, [], _ => by simp
  | b, x :: l, h => fun d hd => by
    simp only [lgB, Bool.and_eq_true] at h
    rcases List.mem_cons.1 hd with rfl | hd
    · exact h.2.1
    · exact lgB_er h.2.2 d hd
theorem lgSz_le {T : Int} {L : List ED} (h : logB T L = true) : lgSz L ≤ 30060 := by
  unfold logB at h
  simp only [Bool.and_eq_true, decide_eq_true_eq] at h
  have h1 := sum_most szD 500 L fun d hd => szD_le (lgB_er h.2 d hd)
  have h2 : L.length * 500 ≤ 60 * 500 := Nat.mul_le_mul_right _ h.1
  unfold lgSz
  omega
theorem rep_logB {tm ld : Int} {rs : List RD} (h : grpB tm ld rs = true) : ∀ r ∈ rs, logB tm r.log = true := fun r hr => by
  obtain ⟨k, hk, rfl⟩ := List.getElem_of_mem hr
  have := rep_of h k hk
  unfold repB at this
  simp only [Bool.and_eq_true] at this
  exact this.1
theorem grp_len {tm ld : Int} {rs : List RD} (h : grpB tm ld rs = true) : rs.length ≤ 5 := by
  unfold grpB szB at h
  simp only [Bool.and_eq_true, Bool.or_eq_true, decide_eq_true_eq] at h
  omega
theorem cpyA_sz {tm ld r : Int} {rs : List RD} : rpSz (cpyA tm ld rs r).1 ≤ 1048576 := by
  unfold cpyA
  split
  · rename_i h
    have hl := grp_len h.1
    have h1 := sum_most (fun r => lgSz r.log) 30060 (cpyRs rs r.toNat ld.toNat) fun x hx => by
      unfold cpyRs at hx
      rcases List.mem_or_eq_of_mem_set hx with hx | rfl
      · exact lgSz_le (rep_logB h.1 x hx)
      · show lgSz (lgOf rs ld.toNat) ≤ 30060
        unfold lgOf
        split
        · rename_i y hy
          exact lgSz_le (rep_logB h.1 y (List.mem_of_getElem? hy))
        · simp [lgSz]
    have h2 : (cpyRs rs r.toNat ld.toNat).length = rs.length := by simp [cpyRs]
    show (cpyRs rs r.toNat ld.toNat).length + ((cpyRs rs r.toNat ld.toNat).map fun r => lgSz r.log).sum ≤ 1048576
    rw [h2] at h1 ⊢
    have h3 : rs.length * 30060 ≤ 5 * 30060 := Nat.mul_le_mul_right _ hl
    omega
  · unfold noGA rpSz; simp

/-- The replica in memory. -/
def cpyH (gs : List RH) (q : Nat) (v : Int) (A : Option Addr) (c : Nat) (es : List EH) (lo hi : Nat) : List RH := gs.set q ⟨true, v, A, c, es, lo, hi⟩
theorem cpyH_map (gs : List RH) (q : Nat) (v : Int) (A : Option Addr) (c : Nat) (es : List EH) (lo hi : Nat) : (cpyH gs q v A c es lo hi).map rdat = (gs.map rdat).set q ⟨true, v, es.map EH.d⟩ := by simp [cpyH, List.map_set, rdat]
theorem own_cpyH {w w' : World} {lo hi m m2 c g q : Nat} {gs : List RH} (h : OwnK KR w lo hi (some ⟨g, 0, none⟩) c gs) (hq : q < gs.length) {A : Option Addr} {cl : Nat} {es : List EH} {v : Int} (hk : ∀ b, b ≠ g → w'.heap[b]? = w.heap[b]?)
    (hr : Own w' lo hi KR.t KR.sz (some ⟨g, 0, none⟩) c ((cpyH gs q v A cl es m m2).map KR.cs)) (hmm : m ≤ m2) (he : OwnK KE w' m m2 A cl es) (h1 : hi ≤ m) : OwnK KR w' lo m2 (some ⟨g, 0, none⟩) c (cpyH gs q v A cl es m m2) := by
  refine ⟨hr.wider (Nat.le_refl _) (by omega), ?_⟩
  obtain ⟨_, h3, h4⟩ := h
  have hg := (hr.block _ rfl)
  have e : cpyH gs q v A cl es m m2 = gs.take q ++ ⟨true, v, A, cl, es, m, m2⟩ :: gs.drop (q + 1) := set_split gs q hq _
  rw [e]
  rw [get_split gs q hq] at h3 h4
  clear e
  obtain ⟨ms, hms⟩ : ∃ ms, ms = gs.take q := ⟨_, rfl⟩
  obtain ⟨rs2, hrs2⟩ : ∃ rs2, rs2 = gs.drop (q + 1) := ⟨_, rfl⟩
  obtain ⟨x, hx⟩ : ∃ x, x = gs[q] := ⟨_, rfl⟩
  rw [← hms, ← hrs2, ← hx] at h3 h4
  rw [← hms, ← hrs2]
  clear hms hrs2 hx hr
  have hkz : ∀ z ∈ ms ++ x :: rs2, KR.ow w' z := fun z hz => KR.ow_keep (h3 z hz).1 fun b b1 b2 b3 => hk b (by have := (h3 z hz).2.2.2 _ rfl; simp only at this; omega)
  refine ⟨fun z hz => ?_, ?_⟩
  · rcases List.mem_append.1 hz with hz | hz
    · have := h3 z (by simp [hz])
      exact ⟨hkz z (by simp [hz]), this.2.1, by omega, this.2.2.2⟩
    · rcases List.mem_cons.1 hz with rfl | hz
      · refine ⟨⟨hmm, he⟩, ?_, Nat.le_refl _, fun p hp => ?_⟩
        · show lo ≤ m
          have := hg.1; have := hg.2.1; simp only at *; omega
        · injection hp with hp
          subst hp
          have := hg.2.1
          exact .inl (Nat.lt_of_lt_of_le this h1)
      · have := h3 z (by simp [hz])
        exact ⟨hkz z (by simp [hz]), this.2.1, by omega, this.2.2.2⟩
  · rw [List.pairwise_append, List.pairwise_cons] at h4 ⊢
    obtain ⟨p1, ⟨p2, p3⟩, p4⟩ := h4
    refine ⟨p1, ⟨fun b hb => .inr (Nat.le_trans (h3 b (by simp [hb])).2.2.1 h1), p3⟩, fun a ha b hb => ?_⟩
    rcases List.mem_cons.1 hb with rfl | hb
    · exact .inl (Nat.le_trans (h3 a (by simp [ha])).2.2.1 h1)
    · exact p4 a ha b (by simp [hb])
theorem setL_self {α : Type} (l : List α) (q : Nat) (hq : q < l.length) (x y z : α) : ((l.set q x).set q y) = l.set q y := by simp
/-- Two of its cells stored, one after the other. -/
theorem own_cpy2 {w : World} {lo hi m m2 c g q : Nat} {gs : List RH} (h : OwnK KR w lo hi (some ⟨g, 0, none⟩) c gs) (hq : q < gs.length) (hup : gs[q].up = true) {A : Option Addr} {cl : Nat} {es : List EH} {v : Int} (hmm : m ≤ m2) (he : OwnK KE w m m2 A cl es) (h1 : hi ≤ m) :
    OwnK KR ((w.setCell ⟨g, q * 3 + 1, none⟩ (.slice A es.length cl)).setCell ⟨g, q * 3 + 2, none⟩ (.int .i64 v)) lo m2 (some ⟨g, 0, none⟩) c (cpyH gs q v A cl es m m2) := by
  have hg := (h.1.block _ rfl)
  have hgm : g < m := Nat.lt_of_lt_of_le hg.2.1 h1
  refine own_cpyH h hq (fun b hb => ?_) ?_ hmm ((he.keep (keep_set (p := ⟨g, q * 3 + 1, none⟩) (.inl hgm) _)).keep (keep_set (p := ⟨g, q * 3 + 2, none⟩) (.inl hgm) _)) h1
  · rw [Below.heap_setCell _ _ _ _ hb, Below.heap_setCell _ _ _ _ hb]
  · have h2 := h.1.put q 1 (by simpa using hq) (by decide) (by simp [KR.len]) (.slice A es.length cl)
    have h3 := h2.put q 2 (by simpa using hq) (by decide) (by simp [KR.len]) (.int .i64 v)
    have e : (((gs.map KR.cs).set q (((gs.map KR.cs)[q]'(by simpa using hq)).set 1 (.slice A es.length cl))).set q ((((gs.map KR.cs).set q (((gs.map KR.cs)[q]'(by simpa using hq)).set 1 (.slice A es.length cl)))[q]'(by simpa using hq)).set 2 (.int .i64 v))) = (cpyH gs q v A cl es m m2).map KR.cs := by
      unfold cpyH
      rw [List.map_set]
      simp [KR, rpCs, hup]
    rw [e] at h3
    exact h3
/-- The whole replica stored. -/
theorem own_cpy3 {w : World} {lo hi m m2 c g q : Nat} {gs : List RH} (h : OwnK KR w lo hi (some ⟨g, 0, none⟩) c gs) (hq : q < gs.length) {A : Option Addr} {cl : Nat} {es : List EH} {v : Int} (hmm : m ≤ m2) (he : OwnK KE w m m2 A cl es) (h1 : hi ≤ m) :
    OwnK KR (putN w g (q * 3) [.bool true, .slice A es.length cl, .int .i64 v]) lo m2 (some ⟨g, 0, none⟩) c (cpyH gs q v A cl es m m2) := by
  have hg := (h.1.block _ rfl)
  have hgm : g < m := Nat.lt_of_lt_of_le hg.2.1 h1
  have e : cpyH gs q v A cl es m m2 = gs.take q ++ ⟨true, v, A, cl, es, m, m2⟩ :: gs.drop (q + 1) := set_split gs q hq _
  have hl : (gs.take q).length = q := by rw [List.length_take]; omega
  rw [e]
  rw [get_split gs q hq] at h
  have h8 := OwnK.setAt (hi2 := m2) h ⟨true, v, A, cl, es, m, m2⟩ ⟨hmm, he.keep (keep_putN (.inl hgm) _ _)⟩ h1 (Nat.le_refl _)
  rw [hl] at h8
  exact h8
end Go.Proofs.Ytkhndofplebcaaa.Gr
