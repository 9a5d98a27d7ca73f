/-
  Contracts for the model's reader, good or bad: num, one, text, texts.
-/
import Derived.Test.YtkhndofplebcaaaRdM
import Derived.Test.YtkhndofplebcaaaC1
namespace Go.Proofs.Ytkhndofplebcaaa
open Go.RowKit CM
set_option linter.unusedVariables false

/-- The reader's state: at a place, or bad. -/
def RS (w : World) (g : Nat) (s : ByteArray) : Option Nat → Prop
  | some q => C1.RAt w g s q false ∧ q ≤ s.size
  | none => ∃ q, C1.RAt w g s q true

set_option maxRecDepth 100000 in
set_option maxHeartbeats 1000000 in
theorem num_bad (g : Nat) (s : ByteArray) (q : Nat) (w : World) (h : C1.RAt w g s q true) :
    Calls Try.prog 94 #[.pointer (some ⟨g, 0, none⟩)] w fun e w' => e = .returned (.int .i64 0) ∧ w.grownBy w' (some g) ∧ C1.RAt w' g s q true := by
  have hc1 := h.c1
  have HO := Lib.hid (C1.one_bad g s q true w h (.inl rfl))
  clear h
  go_enter Try.func94, Try.ntmps94
  go_wp2
  refine wp_loop_rounds 1 ?_
  rw [rounds_succ]
  go_wp2_with fail
  refine HO.out.mono ?_
  rintro e w1 ⟨rfl, hR, hG⟩
  have d0 := hR.c0
  have d1 := hR.c1
  have d2 := hR.c2
  have dfr := hR.fr
  have HG := Lib.hid hG
  have HR := Lib.hid hR
  clear hG hR hc1
  go_wp2_with fail
  go_quiet (fail)
  go_wp2
  go_ret
  exact ⟨rfl, C1.grown_set (C1.grown_drewN HG.out _) rfl _, (HR.out.drewN _).set2 true⟩

set_option maxRecDepth 100000 in
set_option maxHeartbeats 1000000 in
theorem text_bad (g : Nat) (s : ByteArray) (q : Nat) (w : World) (h : C1.RAt w g s q true) :
    Calls Try.prog 98 #[.pointer (some ⟨g, 0, none⟩)] w fun e w' => e = .returned (.string ⟨#[]⟩) ∧ w.grownBy w' (some g) ∧ C1.RAt w' g s q true := by
  have HN := Lib.hid (num_bad g s q w h)
  clear h
  go_enter Try.func98, Try.ntmps98
  go_wp2_with fail
  refine HN.out.mono ?_
  rintro e w1 ⟨rfl, hG, hR⟩
  have d0 := hR.c0
  have d1 := hR.c1
  have d2 := hR.c2
  have dfr := hR.fr
  have HG := Lib.hid hG
  have HR := Lib.hid hR
  clear hG hR
  go_wp2_with fail
  go_quiet (fail)
  go_wp2
  go_ret
  exact ⟨rfl, C1.grown_set (C1.grown_drewN HG.out _) rfl _, (HR.out.drewN _).set2 true⟩

set_option maxRecDepth 100000 in
set_option maxHeartbeats 1000000 in
theorem texts_bad (g : Nat) (s : ByteArray) (q : Nat) (w : World) (h : C1.RAt w g s q true) :
    Calls Try.prog 97 #[.pointer (some ⟨g, 0, none⟩)] w fun e w' => (∃ v, e = .returned v) ∧ w.grownBy w' (some g) ∧ C1.RAt w' g s q true := by
  have HN := Lib.hid (num_bad g s q w h)
  clear h
  go_enter Try.func97, Try.ntmps97
  go_wp2_with fail
  refine HN.out.mono ?_
  rintro e w1 ⟨rfl, hG, hR⟩
  go_wp2
  refine wp_loop_rounds 1 ?_
  rw [rounds_succ]
  go_wp2
  go_ret
  exact ⟨⟨_, rfl⟩, hG, hR⟩

section
variable {w : World} {g : Nat} {s : ByteArray} {σ : Option Nat}
theorem RS.num (h : RS w g s σ) (hs : s.size ≤ 6000) :
    Calls Try.prog 94 #[.pointer (some ⟨g, 0, none⟩)] w fun e w' => e = .returned (.int .i64 ((rdN s σ).1 : Int)) ∧ w.grownBy w' (some g) ∧ RS w' g s (rdN s σ).2 := by
  cases σ with
  | none =>
    obtain ⟨q, hq⟩ := h
    exact (num_bad g s q w hq).mono fun e w' ⟨h1, h2, h3⟩ => ⟨h1, h2, q, h3⟩
  | some q =>
    obtain ⟨h1, h2⟩ := h
    have hin := rdN_in (s := s) (σ := some q) (fun q' hq => by injection hq with hq; omega)
    refine (C1.rnum_any g s q w h1 (Nat.le_trans hs (by decide)) h2).mono ?_
    rintro e w' ⟨hG, ⟨hok, rfl, hR⟩ | ⟨hok, rfl, q', hR⟩⟩
    · have e1 : rdN s (some q) = ((C1.M.readNum s.data.toList q).1, some (C1.M.readNum s.data.toList q).2.1) := by unfold rdN; simp only []; rw [if_pos hok]
      rw [e1] at hin ⊢
      exact ⟨rfl, hG, hR, hin.1 _ rfl⟩
    · have e1 : rdN s (some q) = (0, none) := by unfold rdN; simp only []; rw [if_neg (by rw [hok]; decide)]
      rw [e1]
      exact ⟨rfl, hG, q', hR⟩
theorem RS.text (h : RS w g s σ) (hs : s.size ≤ 6000) :
    Calls Try.prog 98 #[.pointer (some ⟨g, 0, none⟩)] w fun e w' => e = .returned (.string (rdT s σ).1) ∧ w.grownBy w' (some g) ∧ RS w' g s (rdT s σ).2 := by
  cases σ with
  | none =>
    obtain ⟨q, hq⟩ := h
    exact (text_bad g s q w hq).mono fun e w' ⟨h1, h2, h3⟩ => ⟨h1, h2, q, h3⟩
  | some q =>
    obtain ⟨h1, h2⟩ := h
    have hin := rdT_in (s := s) (σ := some q) (fun q' hq => by injection hq with hq; omega)
    refine (C1.rtext_any g s q w h1 hs h2).mono ?_
    rintro e w' ⟨hG, ⟨hok, rfl, hR⟩ | ⟨hok, rfl, q', hR⟩⟩
    · have e1 : rdT s (some q) = ((C1.readText s q).1, some (C1.readText s q).2.1) := by unfold rdT; simp only []; rw [if_pos hok]
      rw [e1] at hin ⊢
      exact ⟨rfl, hG, hR, hin.1 _ rfl⟩
    · have e1 : rdT s (some q) = (⟨#[]⟩, none) := by unfold rdT; simp only []; rw [if_neg (by rw [hok]; decide)]
      rw [e1]
      exact ⟨rfl, hG, q', hR⟩
theorem RS.one (h : RS w g s σ) (hs : s.size ≤ 6000) :
    Calls Try.prog 96 #[.pointer (some ⟨g, 0, none⟩)] w fun e w' => e = .returned (.int .i64 ((rdO s σ).1 : Int)) ∧ w.grownBy w' (some g) ∧ RS w' g s (rdO s σ).2 := by
  cases σ with
  | none =>
    obtain ⟨q, hq⟩ := h
    exact (C1.one_bad g s q true w hq (.inl rfl)).mono fun e w' ⟨h1, h2, h3⟩ => ⟨h1, h3, q, h2⟩
  | some q =>
    obtain ⟨h1, h2⟩ := h
    by_cases hlt : q < s.size
    · have e1 : rdO s (some q) = (s[q].toNat, some (q + 1)) := by unfold rdO; simp only []; rw [dif_pos hlt]
      rw [e1]
      exact (C1.one_yes g s q w h1 (Nat.le_trans hs (by decide)) hlt).mono fun e w' ⟨a, b, c⟩ => ⟨a, c, b, by omega⟩
    · have e1 : rdO s (some q) = (0, none) := by unfold rdO; simp only []; rw [dif_neg hlt]
      rw [e1]
      exact (C1.one_bad g s q false w h1 (.inr (by omega))).mono fun e w' ⟨a, b, c⟩ => ⟨a, c, q, b⟩
/-- The texts: a list in a row of the call's own, or the reader is bad. -/
def TsPost (w : World) (g : Nat) (s : ByteArray) (σ : Option Nat) (e : Ending) (w' : World) : Prop :=
  ∃ v, e = .returned v ∧ w.grownBy w' (some g) ∧ (RS w' g s none ∨ ∃ q l z, σ = some q ∧ C1.readTexts s q = some (l, z) ∧ RS w' g s (some z) ∧ w'.ownsRow w.heap.size 9 1 v l.length (C1.S9 l) ∧ l.length ≤ 40)
theorem run_size {s : ByteArray} {y k : Nat} {l : List ByteArray} {z : Nat} (h : C1.run s y k = some (l, z)) : (∀ x ∈ l, x.size ≤ 60) ∧ (y ≤ s.size → z ≤ s.size) := by
  induction k generalizing l z with
  | zero => simp only [C1.run, Option.some.injEq, Prod.mk.injEq] at h; obtain ⟨rfl, rfl⟩ := h; exact ⟨by simp, fun h => h⟩
  | succ k ih =>
    simp only [C1.run] at h
    cases hr : C1.run s y k with
    | none => rw [hr] at h; cases h
    | some p =>
      obtain ⟨l', z'⟩ := p
      rw [hr] at h
      simp only at h
      split at h
      · rename_i hok
        simp only [Option.some.injEq, Prod.mk.injEq] at h
        obtain ⟨rfl, rfl⟩ := h
        obtain ⟨h1, h2⟩ := ih hr
        rcases ht : C1.readText s z' with ⟨t, y', ok⟩
        rw [ht] at hok
        simp only at hok
        subst hok
        have hb := C1.readText_bounds ht
        refine ⟨fun x hx => ?_, fun _ => by simp only; omega⟩
        rcases List.mem_append.1 hx with hx | hx
        · exact h1 x hx
        · rw [List.mem_singleton.1 hx]; simp only; omega
      · cases h
theorem texts_size {s : ByteArray} {q : Nat} {l : List ByteArray} {z : Nat} (hq : q ≤ s.size) (h : C1.readTexts s q = some (l, z)) : (∀ x ∈ l, x.size ≤ 60) ∧ z ≤ s.size := by
  unfold C1.readTexts at h
  split at h
  · rename_i hc
    obtain ⟨h1, h2⟩ := run_size h
    refine ⟨h1, h2 ?_⟩
    rcases hr : C1.M.readNum s.data.toList q with ⟨n, x, ok⟩
    rw [hr] at hc
    obtain ⟨hok, _⟩ := hc
    simp only at hok
    subst hok
    have hb := C1.M.read_bounds _ q n x hr
    rw [List.length_drop, C1.data_len] at hb
    show x ≤ s.size
    omega
  · cases h
theorem RS.texts (h : RS w g s σ) (hs : s.size ≤ 6000) :
    Calls Try.prog 97 #[.pointer (some ⟨g, 0, none⟩)] w (TsPost w g s σ) := by
  cases σ with
  | none =>
    obtain ⟨q, hq⟩ := h
    exact (texts_bad g s q w hq).mono fun e w' ⟨⟨v, h1⟩, h2, h3⟩ => ⟨v, h1, h2, .inl ⟨q, h3⟩⟩
  | some q =>
    obtain ⟨h1, h2⟩ := h
    refine (C1.rtexts_any g s q w h1 hs h2).mono ?_
    rintro e w' ⟨hG, ⟨hok, v, q', rfl, hR⟩ | ⟨l, z, v, hok, rfl, hown, hl, hR⟩⟩
    · exact ⟨v, rfl, hG, .inl ⟨q', hR⟩⟩
    · exact ⟨v, rfl, hG, .inr ⟨q, l, z, rfl, hok, ⟨hR, (texts_size h2 hok).2⟩, hown, hl⟩⟩
end
end Go.Proofs.Ytkhndofplebcaaa
